/- Put: others stand in the points' place. -/
import Derived.Test.YtnkdbpbfapdfeaaDf
import Derived.Laws.IdiomCopy
namespace Go.Proofs.Ytnkdbpbfapdfeaa
open Go.RowKit

theorem run_copy_2 {P : Program} (w : World) (dT sT ty elem : TypeId) (b o dLen dCap : Nat) (a : Addr) (sLen sCap k : Nat) (cs : List Value)
    (hu : P.underlying dT = some (.slice elem)) (hs : (P.info? elem).map (·.size) = some 2) (hk : k = Nat.min sLen dLen) (hn : cs.length = k * 2)
    (hsrc : ∀ j v, cs[j]? = some v → w.cell? (a.add j) = some v) (hc : ∀ j, j < cs.length → (w.cell? ⟨b, o + j, none⟩).isSome = true) (hf : ∀ j, j < cs.length → w.frozen? ⟨b, o + j, none⟩ = false) (h1 : ∀ v ∈ cs, v.oneCell' = true) :
    (Builtin.copy_ #[dT, sT] ty #[.slice (some ⟨b, o, none⟩) dLen dCap, .slice (some a) sLen sCap]).run P w = .ok (goInt k) (w.setCells b o cs) := by
  have hl := run_loadCells_list (P := P) w a cs hsrc
  have hst := run_storeCells_cells (P := P) b o cs 0 w (by simpa using hc) (by simpa using hf) h1
  rw [hn] at hl
  cases hq : P.info? elem with
  | none => simp [hq] at hs
  | some i =>
    have hi : i.size = 2 := by simpa [hq] using hs
    simp [Builtin.copy_, run_underlying hu, Builtin.lenOf, Builtin.firstCells, sizeOf, typeInfo, hq, hi, ← hk, hl, hst]
theorem run_copy_0 (w : World) (ty : TypeId) (A A0 : Option Addr) (c c0 : Nat) :
    (Builtin.copy_ #[40, 40] ty #[.slice A 0 c, .slice A0 0 c0]).run Try.prog w = .ok (goInt 0) w := by
  have ht : Try.prog.underlying 40 = some (.slice 30) := by kernel_rfl
  have hs : (Try.prog.info? 30).map (·.size) = some 2 := by kernel_rfl
  cases hq : Try.prog.info? 30 with
  | none => simp [hq] at hs
  | some i =>
    have h1 : ∀ a : Addr, (loadCells a 0).run Try.prog w = .ok #[] w := fun a => run_loadCells_list (P := Try.prog) w a [] (by simp)
    have h2 : ∀ a : Addr, (storeCells a []).run Try.prog w = .ok () w := fun a => rfl
    cases A <;> cases A0 <;> simp [Builtin.copy_, run_underlying ht, Builtin.lenOf, Builtin.firstCells, sizeOf, typeInfo, hq, h1, h2]
theorem plC_eq2 : ∀ l, cellsP l = plC l
  | [] => rfl
  | x :: l => by rw [cellsP, plC, plC_eq2 l]
theorem sizePos : (Try.prog.info? 30).map (·.size) = some 2 := by kernel_rfl
def okPut (L l : List (Int × Int)) : Bool := decide (l.length = L.length) && allRight l
set_option maxRecDepth 100000 in
set_option maxHeartbeats 4000000 in
theorem put_wrong1 {w : World} {D : Nat} {v : Value} {most : Int} {L : List (Int × Int)} (h : PM w D v most L) (A0 : Option Addr) (m c0 : Nat) (hm : m ≠ L.length) :
    Calls Try.prog 17 #[.pointer (some ⟨D, 0, none⟩), .slice A0 m c0] w fun e w' => e = .returned (.int .i64 1) ∧ Below w.heap.size w w' := by
  obtain ⟨⟨d0, d1⟩, df⟩ := h.cells
  obtain ⟨A, c, rfl⟩ := h.row.shape
  have hne : ((m : Int) != (L.length : Int)) = true := by simp only [bne_iff_ne, ne_eq]; omega
  clear h
  go_enter Try.func17, Try.ntmps17
  go_wp2
  go_ret
  exact ⟨rfl, Below.refl _ _⟩
set_option maxRecDepth 100000 in
set_option maxHeartbeats 4000000 in
theorem put_wrong2 {w : World} {D : Nat} {v : Value} {most : Int} {L : List (Int × Int)} (h : PM w D v most L) (A0 : Option Addr) (l : List (Int × Int)) (c0 : Nat) (hm : l.length = L.length) (hl : L.length ≤ 1000000) (hr : RPl w w.heap.size A0 l) (hok : allRight l = false) :
    Calls Try.prog 17 #[.pointer (some ⟨D, 0, none⟩), .slice A0 L.length c0] w fun e w' => e = .returned (.int .i64 1) ∧ Below w.heap.size w w' := by
  obtain ⟨⟨d0, d1⟩, df⟩ := h.cells
  obtain ⟨A, c, rfl⟩ := h.row.shape
  have HC := Lib.hid (containsWrong_any A0 l L.length c0 hm.symm hl w hr)
  rw [hok] at HC
  simp only [Bool.not_false] at HC
  clear h hr hm hok
  go_enter Try.func17, Try.ntmps17
  go_wp2_with (go_at_call 32; (with_reducible refine (HC.out).mono ?_); rintro e w1 ⟨rfl, hb⟩; have HB := Lib.hid hb; clear hb)
  go_ret
  exact ⟨rfl, HB.out⟩
set_option maxRecDepth 100000 in
set_option maxHeartbeats 4000000 in
theorem put_ok {w : World} {D : Nat} {v : Value} {most : Int} {L : List (Int × Int)} (h : PM w D v most L) (A0 : Option Addr) (l : List (Int × Int)) (c0 : Nat) (hm : l.length = L.length) (hl : L.length ≤ 1000000) (hr : RPl w w.heap.size A0 l) (hok : allRight l = true) :
    Calls Try.prog 17 #[.pointer (some ⟨D, 0, none⟩), .slice A0 L.length c0] w fun e w' => e = .returned (.int .i64 0) ∧ PPost w D v most l w' := by
  obtain ⟨⟨d0, d1⟩, df⟩ := h.cells
  obtain ⟨A, c, rfl⟩ := h.row.shape
  have HC := Lib.hid (containsWrong_any A0 l L.length c0 hm.symm hl w hr)
  rw [hok] at HC
  simp only [Bool.not_true] at HC
  have HM := Lib.hid h
  have hDl := h.lt
  have HCP : Hid (∀ w1, Below w.heap.size w w1 → ∃ w2, (∀ ty, (Builtin.copy_ #[40, 40] ty #[.slice A L.length c, .slice A0 L.length c0]).run Try.prog w1 = .ok (goInt L.length) w2) ∧ PPost w D (.slice A L.length c) most l w2) := Lib.hid fun w1 hb => by
    have h1 := HM.out.past hb
    by_cases hne : L = []
    · subst hne
      obtain rfl : l = [] := List.eq_nil_of_length_eq_zero hm
      exact ⟨w1, fun ty => run_copy_0 w1 ty A A0 c c0, PPost.same HM.out hb⟩
    · have hne0 : l ≠ [] := fun e => by rw [e] at hm; exact hne (List.eq_nil_of_length_eq_zero hm.symm)
      obtain ⟨g, off, rfl, _, _⟩ := (h1.row.rpl rfl) hne
      obtain ⟨b, o, rfl, hbl, hcell⟩ := (hr.past hb) hne0
      have hor := h1.row
      rcases hor.2 with ⟨h0, _⟩ | ⟨g', off', cap, cur, e, hh, q1, q2, q3, q4⟩
      · simp at h0
      · simp only [Value.slice.injEq, Option.some.injEq, Addr.mk.injEq, and_true, true_and] at e
        obtain ⟨⟨rfl, rfl⟩, rfl⟩ := e
        have hth := there_of hh off (plC l).length (by rw [plC_len]; omega)
        have hlen : (plC l).length = L.length * 2 := by rw [plC_len, hm]
        have hsrc : ∀ j u, (plC l)[j]? = some u → w1.cell? ((⟨b, o, none⟩ : Addr).add j) = some u := by
          rw [← plC_eq2]
          exact RPl.news hcell
        have hrun := fun ty => run_copy_2 (P := Try.prog) w1 40 40 ty 30 g off L.length c ⟨b, o, none⟩ L.length c0 L.length (plC l) Try.underlying40 sizePos (by simp) hlen hsrc (fun j hj => (hth j hj).1) (fun j hj => (hth j hj).2) (plC_one l)
        obtain ⟨cur', hh', hcs⟩ := heap_setCells_same g 30 (plC l) off w1 cur hh
        have hgD : g ≠ D := HM.out.ne g rfl
        have hd : (w1.setCells g off (plC l)).heap[D]? = _ := ((KB.setCells (S := fun i => i = g) rfl (plC l) off w1).block D h1.lt (fun e => hgD e.symm)).trans h1.d
        refine ⟨_, hrun, .slice (some ⟨g, off, none⟩) L.length c, ⟨hd, ⟨plC_len l, .inr ⟨g, off, c, cur', by rw [hm], hh', by omega, q2, by omega, ?_⟩⟩⟩, KB.trans (S := fun i => i = D ∨ some i = (Value.slice (some (⟨g, off, none⟩ : Addr)) L.length c).ownBlock) (KB.of_below hb) (KB.setCells (S := fun i => i = g) rfl (plC l) off w1) (fun _ _ e => .inr (by rw [e]; rfl)), .inl rfl⟩
        exact World.rangeAt_setCells_same w1 g off (plC l) hth
  clear h hr hm hok
  go_enter Try.func17, Try.ntmps17
  go_wp2_with (go_at_call 32; (with_reducible refine (HC.out).mono ?_); rintro e w1 ⟨rfl, hb⟩; obtain ⟨w2, hcp, hpost⟩ := HCP.out _ hb; have HPO := Lib.hid hpost; have d00 := (HM.out.past hb).cells.1.1; have hD1 := Nat.lt_of_lt_of_le hDl hb.size; clear hb hpost)
  go_ret
  exact ⟨rfl, HPO.out⟩
end Go.Proofs.Ytnkdbpbfapdfeaa
