/- The walk of ref07's Mend. -/
import Derived.Test.YtfjgfmeanehpmaaGi
namespace Go.Proofs.Ytfjgfmeanehpmaa
open Go.RowKit

theorem own_past' {w w' : World} {B : Nat} {e : TypeId} {z : Nat} {v : Value} {n : Nat} {L : List Value} (h : w.ownsRow B e z v n L) (hb : Below w.heap.size w w') : w'.ownsRow B e z v n L :=
  ⟨h.1, h.2.imp id fun ⟨g, cap, cur, a1, a2, a3, a4⟩ => ⟨g, cap, cur, a1, a2, (hb.block g (Array.getElem?_eq_some_iff.1 a3).1).trans a3, a4⟩⟩
theorem news8 (W : World) (x : CC) (t : TypeId) : ∀ (j : Nat) (u : Value), (encC x)[j]? = some u → (W.alloc (.cells #[.int .i32 x.r, .string x.m, .int .i64 x.h, .int .i64 x.fk, .int .i64 x.fn, .int .i64 x.bk, .int .i64 x.bn, .int .i64 x.fl] t)).cell? ((⟨W.heap.size, 0, none⟩ : Addr).add j) = some u := fun j u hj => by
  have hadd : ((⟨W.heap.size, 0, none⟩ : Addr).add j) = ⟨W.heap.size, j, none⟩ := by
    unfold Addr.add
    by_cases h1 : j = 0 <;> simp [h1]
  rw [hadd, cell_of_row _ _ j _ _ _ (heap_alloc_new W _), ← hj]
  simp [encC]
/-- What the document's loop has done so far. -/
def mendAt (l out : List CC) (i : Nat) (p : Bool) : Prop :=
  out.length = i ∧ (p = false → mendL l = out ++ mendL (l.drop i)) ∧ (p = true → i < l.length ∧ mendL l = out ++ Ac l i :: mendL (l.drop (i + 1)))
theorem mendAt_start (l : List CC) : mendAt l [] 0 false := ⟨rfl, fun _ => rfl, fun h => by cases h⟩
theorem mendAt_second {l out : List CC} {i : Nat} (h : mendAt l out i true) : mendAt l (out ++ [Ac l i]) (i + 1) false := by
  obtain ⟨h1, _, h3⟩ := h
  obtain ⟨h4, h5⟩ := h3 rfl
  exact ⟨by simp [h1], fun _ => by rw [h5]; simp, fun h => by cases h⟩
theorem mendAt_first {l out : List CC} {i : Nat} (h : mendAt l out i false) (hi : i + 1 < l.length) (hp : pairB (Ac l i) (Ac l (i + 1)) = true) : mendAt l (out ++ [Ac l i]) (i + 1) true := by
  obtain ⟨h1, h2, _⟩ := h
  exact ⟨by simp [h1], (fun h => by cases h), fun _ => ⟨hi, by rw [h2 rfl, mendL_pair l i hi hp]; simp⟩⟩
theorem mendAt_one {l out : List CC} {i : Nat} (h : mendAt l out i false) (hi : i < l.length) (hp : i + 1 < l.length → pairB (Ac l i) (Ac l (i + 1)) = false) (x : CC) (hx : x = if (Ac l i).h = 0 ∨ (Ac l i).h = 3 ∧ i + 1 = l.length then Ac l i else bare (Ac l i)) : mendAt l (out ++ [x]) (i + 1) false := by
  obtain ⟨h1, h2, _⟩ := h
  exact ⟨by simp [h1], fun _ => by rw [h2 rfl, mendL_one l i hi hp, ← hx]; simp, fun h => by cases h⟩
theorem mendAt_end {l out : List CC} {p : Bool} (h : mendAt l out l.length p) : mendL l = out := by
  obtain ⟨h1, h2, h3⟩ := h
  cases p with
  | true => have := (h3 rfl).1; omega
  | false => rw [h2 rfl, List.drop_of_length_le (Nat.le_refl _)]; exact List.append_nil _

theorem Attr_guard : Try.prog.eqGuardType Try.prog.depth 52 = false := by kernel_rfl
theorem own_form8 {w : World} {base : Nat} {e : TypeId} {size : Nat} {v : Value} {k : Nat} {xs : List Value} (h : w.ownsRow base e size v k xs) : ∃ A c, v = .slice A k c := by
  rcases h.2 with ⟨rfl, rfl⟩ | ⟨g, cap, cur, rfl, _⟩
  · exact ⟨none, 0, rfl⟩
  · exact ⟨_, cap, rfl⟩
theorem newsAt {W : World} {k : Nat} (hk : W.heap.size = k) (x : CC) (t : TypeId) : ∀ (j : Nat) (u : Value), (encC x)[j]? = some u → (W.alloc (.cells #[.int .i32 x.r, .string x.m, .int .i64 x.h, .int .i64 x.fk, .int .i64 x.fn, .int .i64 x.bk, .int .i64 x.bn, .int .i64 x.fl] t)).cell? ((⟨k, 0, none⟩ : Addr).add j) = some u := by
  subst hk
  exact news8 W x t
theorem mend_end {w wr W2 w5 : World} {vo v5 : Value} {l out : List CC} {i : Nat} {x : CC} {p' : Bool} (hown : wr.ownsRow w.heap.size 54 8 vo i (cellsC out)) (hB0 : Below w.heap.size w wr) (hB : Below wr.heap.size wr W2) (hm : mendAt l (out ++ [x]) (i + 1) p') (ho5 : w5.ownsRow w.heap.size 54 8 v5 (i + 1) (cellsC out ++ encC x)) (hg : W2.grownBy w5 vo.ownBlock) : (∃ out, mendAt l out (i + 1) p' ∧ w5.ownsRow w.heap.size 54 8 v5 (i + 1) (cellsC out)) ∧ Below w.heap.size w w5 := by
  refine ⟨⟨_, hm, by rw [cellsC_snoc]; exact ho5⟩, (bel0 hB0 hB).grown hg (bel0 hB0 hB).size fun k e => ?_⟩
  rcases hown.2 with ⟨h1, _⟩ | ⟨g, cap, cur, h1, h2, _⟩
  · rw [h1] at e; cases e
  · rw [h1] at e
    cases e
    exact h2

set_option maxRecDepth 100000 in
set_option maxHeartbeats 8000000 in
theorem refMend_big (A : Option Addr) (l : List CC) (n c : Nat) (hn : n = l.length) (hl : n ≤ 100000) (w : World) (h : RC w w.heap.size A l) :
    Calls Try.prog 28 #[.slice A n c] w fun e w' => ∃ v, e = .returned v ∧ OC w.heap.size w' v (mendL l) ∧ Below w.heap.size w w' := by
  have HR := Lib.hid h
  have HN := Lib.hid hn
  obtain ⟨i0, hi0, hz0, hz1, hz2⟩ := info_parts infoCell
  clear hn h
  go_enter Try.func28, Try.ntmps28
  go_wp2
  go_loopw [3, 4, 5] (fun v pp q wr => ∃ (i : Nat) (vo : Value) (p : Bool), vo = v ∧ pp = .bool p ∧ q = .int .i64 i ∧ i ≤ n ∧ Hid (∃ out, mendAt l out i p ∧ wr.ownsRow w.heap.size 54 8 vo i (cellsC out)) ∧ Hid (Below w.heap.size w wr)) (fun _ _ q _ => n - (intOf q).toNat)
  case atStart => exact ⟨0, _, false, rfl, rfl, rfl, Nat.zero_le _, Lib.hid ⟨[], mendAt_start l, World.ownsRow_nil _ _ _ _⟩, Lib.hid (Below.refl _ _)⟩
  case round =>
    obtain ⟨i, vo, p, rfl, rfl, rfl, hi, HO, HB⟩ := hrel
    by_cases hlt : i < n
    · have hlti : (i : Int) < n := by omega
      obtain ⟨b, off, rfl, hG⟩ := HR.out.at (fun e => by have := HN.out; rw [e] at this; simp at this; omega)
      obtain ⟨G0, GA⟩ := hG _ HB.out
      obtain ⟨a0, a1, a2, a3, a4, a5, a6, a7⟩ := GA i (by have := HN.out; omega)
      obtain ⟨out, hma, hown⟩ := HO.out
      obtain ⟨Ao, co, rfl⟩ := own_form8 hown
      have hws := HB.out.size
      have HEND : Hid (∀ W2 w5 v5 x p', Below wr.heap.size wr W2 → mendAt l (out ++ [x]) (i + 1) p' → w5.ownsRow w.heap.size 54 8 v5 (i + 1) (cellsC out ++ encC x) → W2.grownBy w5 (Value.slice Ao i co).ownBlock → (∃ out, mendAt l out (i + 1) p' ∧ w5.ownsRow w.heap.size 54 8 v5 (i + 1) (cellsC out)) ∧ Below w.heap.size w w5) := Lib.hid fun W2 w5 v5 x p' hb hm h1 h2 => mend_end hown HB.out hb hm h1 h2
      have HOWN : Hid (∀ W, Below wr.heap.size wr W → W.ownsRow w.heap.size 54 8 (.slice Ao i co) i (cellsC out)) := Lib.hid fun W hW => own_past' hown hW
      cases p with
      | true =>
        have HMA := Lib.hid (mendAt_second hma)
        generalize Ac l i = x at *
        clear hma hown GA hG HO
        generalize cellsC out = ol at HOWN HEND
        have HN5 : Hid (∀ j u, (encC x)[j]? = some u → ((wr.alloc (.cells #[.int .i32 x.r, .string x.m, .int .i64 x.h, .int .i64 x.fk, .int .i64 x.fn, .int .i64 x.bk, .int .i64 x.bn, .int .i64 x.fl] 54)).alloc (.cells #[.int .i32 x.r, .string x.m, .int .i64 x.h, .int .i64 x.fk, .int .i64 x.fn, .int .i64 x.bk, .int .i64 x.bn, .int .i64 x.fl] 54)).cell? ((⟨wr.heap.size + 1, 0, none⟩ : Addr).add j) = some u) := Lib.hid (newsAt (by simp) x _)
        have HE5 : Hid (∀ v5 w5, w5.ownsRow w.heap.size 54 8 v5 (i + 1) (ol ++ encC x) → ((wr.alloc (.cells #[.int .i32 x.r, .string x.m, .int .i64 x.h, .int .i64 x.fk, .int .i64 x.fn, .int .i64 x.bk, .int .i64 x.bn, .int .i64 x.fl] 54)).alloc (.cells #[.int .i32 x.r, .string x.m, .int .i64 x.h, .int .i64 x.fk, .int .i64 x.fn, .int .i64 x.bk, .int .i64 x.bn, .int .i64 x.fl] 54)).grownBy w5 (Value.slice Ao i co).ownBlock → (∃ out, mendAt l out (i + 1) false ∧ w5.ownsRow w.heap.size 54 8 v5 (i + 1) (cellsC out)) ∧ Below w.heap.size w w5) := Lib.hid fun v5 w5 h1 h2 => HEND.out _ _ _ _ _ (belA (belA (Below.refl _ _) _) _) HMA.out h1 h2
        go_wp2_with (at_builtin; go_must (refine wpList_append_own _ rfl _ _ 29 rfl w.heap.size 54 i0 _ 8 72 Try.underlying29 hi0 hz0 hz1 hz2 rfl (by decide) (.slice Ao i co) i ol rfl (HOWN.out _ (belA (belA (Below.refl _ _) _) _)) ⟨wr.heap.size + 1, 0, none⟩ 1 1 (encC x) rfl rfl HN5.out (encC_one x) (by unfold maxLen; omega) (by omega) (by simp; omega) ?_; intro v5 w5 hown5 hgrow5 _; have HZ := Lib.hid (HE5.out _ _ hown5 hgrow5); clear hown5 hgrow5))
        go_roundw
        case rel => exact ⟨i + 1, _, false, rfl, rfl, by go_num, hlt, Lib.hid HZ.out.1, Lib.hid HZ.out.2⟩
        case measure => simp [intOf]; omega
      | false =>
        obtain ⟨x, hx⟩ : ∃ x, Ac l i = x := ⟨_, rfl⟩
        have HXI := Lib.hid hx
        rw [hx] at a0 a1 a2 a3 a4 a5 a6 a7
        clear hx
        have hwi : IntKind.i64.wrap ((i : Int) + 1) = (i : Int) + 1 := by rw [IntKind.wrap_i64]; omega
        have hwn : IntKind.i64.wrap ((n : Int) - 1) = (n : Int) - 1 := by rw [IntKind.wrap_i64]; omega
        by_cases h1 : x.h = 1
        · have e1 : (x.h == 1) = true := by simpa using h1
          have e0 : (x.h == 0) = false := by rw [h1]; rfl
          have e3 : (x.h == 3) = false := by rw [h1]; rfl
          by_cases hl : i + 1 < n
          · have hd : decide ((i : Int) < (n : Int) - 1) = true := decide_eq_true (by omega)
            have hin : (i : Int) + 1 < n := by omega
            obtain ⟨k0, k1, k2, k3, k4, k5, k6, k7⟩ := GA (i + 1) (by have := HN.out; omega)
            obtain ⟨y, hy⟩ : ∃ y, Ac l (i + 1) = y := ⟨_, rfl⟩
            have HYI := Lib.hid hy
            rw [hy] at k0 k1 k2 k3 k4 k5 k6 k7
            clear hy
            have hq := fun W => eqAttrN 9997 W y x
            have hg := Attr_guard
            have HPB : Hid (pairB x y = (y.r == x.r && (y.m.toList == x.m.toList && (y.h == 2 && eqA y x)))) := Lib.hid (by unfold pairB; rw [e1]; rfl)
            by_cases g1 : y.h = 2
            · have f1 : (y.h == 2) = true := by simpa using g1
              cases f2 : (y.r == x.r)
              · skip
                have HPN : Hid (i + 1 < l.length → pairB (Ac l i) (Ac l (i + 1)) = false) := Lib.hid fun _ => by rw [HXI.out, HYI.out, HPB.out, f2]; simp
                have HMA : Hid (mendAt l (out ++ [bare x]) (i + 1) false) := Lib.hid (mendAt_one hma (by have := HN.out; omega) HPN.out _ (by rw [HXI.out, if_neg (by have := HN.out; omega)]))
                clear hma hown GA hG HO
                generalize cellsC out = ol at HOWN HEND
                clear h1 hl HPB g1
                have HN5 : Hid (∀ j u, (encC (bare x))[j]? = some u → (((wr.alloc (.cells #[.int .i32 0, .string ⟨#[]⟩, .int .i64 0, .int .i64 x.fk, .int .i64 x.fn, .int .i64 x.bk, .int .i64 x.bn, .int .i64 x.fl] 54)).alloc (.cells #[.int .i32 y.r, .string y.m, .int .i64 y.h, .int .i64 y.fk, .int .i64 y.fn, .int .i64 y.bk, .int .i64 y.bn, .int .i64 y.fl] 54)).alloc (.cells #[.int .i32 0, .string ⟨#[]⟩, .int .i64 0, .int .i64 x.fk, .int .i64 x.fn, .int .i64 x.bk, .int .i64 x.bn, .int .i64 x.fl] 54)).cell? ((⟨wr.heap.size + 2, 0, none⟩ : Addr).add j) = some u) := Lib.hid (newsAt (by simp) (bare x) _)
                have HE5 : Hid (∀ v5 w5, w5.ownsRow w.heap.size 54 8 v5 (i + 1) (ol ++ encC (bare x)) → (((wr.alloc (.cells #[.int .i32 0, .string ⟨#[]⟩, .int .i64 0, .int .i64 x.fk, .int .i64 x.fn, .int .i64 x.bk, .int .i64 x.bn, .int .i64 x.fl] 54)).alloc (.cells #[.int .i32 y.r, .string y.m, .int .i64 y.h, .int .i64 y.fk, .int .i64 y.fn, .int .i64 y.bk, .int .i64 y.bn, .int .i64 y.fl] 54)).alloc (.cells #[.int .i32 0, .string ⟨#[]⟩, .int .i64 0, .int .i64 x.fk, .int .i64 x.fn, .int .i64 x.bk, .int .i64 x.bn, .int .i64 x.fl] 54)).grownBy w5 (Value.slice Ao i co).ownBlock → (∃ out, mendAt l out (i + 1) false ∧ w5.ownsRow w.heap.size 54 8 v5 (i + 1) (cellsC out)) ∧ Below w.heap.size w w5) := Lib.hid fun v5 w5 h1 h2 => HEND.out _ _ _ _ _ (belA (belA (belA (Below.refl _ _) _) _) _) HMA.out h1 h2
                go_wp2_with (at_builtin; go_must (refine wpList_append_own _ rfl _ _ 29 rfl w.heap.size 54 i0 _ 8 72 Try.underlying29 hi0 hz0 hz1 hz2 rfl (by decide) (.slice Ao i co) i ol rfl (HOWN.out _ (belA (belA (belA (Below.refl _ _) _) _) _)) ⟨wr.heap.size + 2, 0, none⟩ 1 1 (encC (bare x)) rfl rfl HN5.out (encC_one (bare x)) (by unfold maxLen; omega) (by omega) (by simp; omega) ?_; intro v5 w5 hown5 hgrow5 _; have HZ := Lib.hid (HE5.out _ _ hown5 hgrow5); clear hown5 hgrow5))
                go_roundw
                case rel => exact ⟨i + 1, _, false, rfl, rfl, by go_num, hlt, Lib.hid HZ.out.1, Lib.hid HZ.out.2⟩
                case measure => simp [intOf]; omega
              · cases f3 : (y.m.toList == x.m.toList)
                · skip
                  have HPN : Hid (i + 1 < l.length → pairB (Ac l i) (Ac l (i + 1)) = false) := Lib.hid fun _ => by rw [HXI.out, HYI.out, HPB.out, f3]; simp
                  have HMA : Hid (mendAt l (out ++ [bare x]) (i + 1) false) := Lib.hid (mendAt_one hma (by have := HN.out; omega) HPN.out _ (by rw [HXI.out, if_neg (by have := HN.out; omega)]))
                  clear hma hown GA hG HO
                  generalize cellsC out = ol at HOWN HEND
                  clear h1 hl HPB g1
                  have HN5 : Hid (∀ j u, (encC (bare x))[j]? = some u → (((wr.alloc (.cells #[.int .i32 0, .string ⟨#[]⟩, .int .i64 0, .int .i64 x.fk, .int .i64 x.fn, .int .i64 x.bk, .int .i64 x.bn, .int .i64 x.fl] 54)).alloc (.cells #[.int .i32 y.r, .string y.m, .int .i64 y.h, .int .i64 y.fk, .int .i64 y.fn, .int .i64 y.bk, .int .i64 y.bn, .int .i64 y.fl] 54)).alloc (.cells #[.int .i32 0, .string ⟨#[]⟩, .int .i64 0, .int .i64 x.fk, .int .i64 x.fn, .int .i64 x.bk, .int .i64 x.bn, .int .i64 x.fl] 54)).cell? ((⟨wr.heap.size + 2, 0, none⟩ : Addr).add j) = some u) := Lib.hid (newsAt (by simp) (bare x) _)
                  have HE5 : Hid (∀ v5 w5, w5.ownsRow w.heap.size 54 8 v5 (i + 1) (ol ++ encC (bare x)) → (((wr.alloc (.cells #[.int .i32 0, .string ⟨#[]⟩, .int .i64 0, .int .i64 x.fk, .int .i64 x.fn, .int .i64 x.bk, .int .i64 x.bn, .int .i64 x.fl] 54)).alloc (.cells #[.int .i32 y.r, .string y.m, .int .i64 y.h, .int .i64 y.fk, .int .i64 y.fn, .int .i64 y.bk, .int .i64 y.bn, .int .i64 y.fl] 54)).alloc (.cells #[.int .i32 0, .string ⟨#[]⟩, .int .i64 0, .int .i64 x.fk, .int .i64 x.fn, .int .i64 x.bk, .int .i64 x.bn, .int .i64 x.fl] 54)).grownBy w5 (Value.slice Ao i co).ownBlock → (∃ out, mendAt l out (i + 1) false ∧ w5.ownsRow w.heap.size 54 8 v5 (i + 1) (cellsC out)) ∧ Below w.heap.size w w5) := Lib.hid fun v5 w5 h1 h2 => HEND.out _ _ _ _ _ (belA (belA (belA (Below.refl _ _) _) _) _) HMA.out h1 h2
                  go_wp2_with (at_builtin; go_must (refine wpList_append_own _ rfl _ _ 29 rfl w.heap.size 54 i0 _ 8 72 Try.underlying29 hi0 hz0 hz1 hz2 rfl (by decide) (.slice Ao i co) i ol rfl (HOWN.out _ (belA (belA (belA (Below.refl _ _) _) _) _)) ⟨wr.heap.size + 2, 0, none⟩ 1 1 (encC (bare x)) rfl rfl HN5.out (encC_one (bare x)) (by unfold maxLen; omega) (by omega) (by simp; omega) ?_; intro v5 w5 hown5 hgrow5 _; have HZ := Lib.hid (HE5.out _ _ hown5 hgrow5); clear hown5 hgrow5))
                  go_roundw
                  case rel => exact ⟨i + 1, _, false, rfl, rfl, by go_num, hlt, Lib.hid HZ.out.1, Lib.hid HZ.out.2⟩
                  case measure => simp [intOf]; omega
                · cases f4 : eqA y x
                  · rw [f4] at hq
                    have HPN : Hid (i + 1 < l.length → pairB (Ac l i) (Ac l (i + 1)) = false) := Lib.hid fun _ => by rw [HXI.out, HYI.out, HPB.out, f4]; simp
                    have HMA : Hid (mendAt l (out ++ [bare x]) (i + 1) false) := Lib.hid (mendAt_one hma (by have := HN.out; omega) HPN.out _ (by rw [HXI.out, if_neg (by have := HN.out; omega)]))
                    clear hma hown GA hG HO
                    generalize cellsC out = ol at HOWN HEND
                    clear h1 hl HPB g1
                    have HN5 : Hid (∀ j u, (encC (bare x))[j]? = some u → (((wr.alloc (.cells #[.int .i32 0, .string ⟨#[]⟩, .int .i64 0, .int .i64 x.fk, .int .i64 x.fn, .int .i64 x.bk, .int .i64 x.bn, .int .i64 x.fl] 54)).alloc (.cells #[.int .i32 y.r, .string y.m, .int .i64 y.h, .int .i64 y.fk, .int .i64 y.fn, .int .i64 y.bk, .int .i64 y.bn, .int .i64 y.fl] 54)).alloc (.cells #[.int .i32 0, .string ⟨#[]⟩, .int .i64 0, .int .i64 x.fk, .int .i64 x.fn, .int .i64 x.bk, .int .i64 x.bn, .int .i64 x.fl] 54)).cell? ((⟨wr.heap.size + 2, 0, none⟩ : Addr).add j) = some u) := Lib.hid (newsAt (by simp) (bare x) _)
                    have HE5 : Hid (∀ v5 w5, w5.ownsRow w.heap.size 54 8 v5 (i + 1) (ol ++ encC (bare x)) → (((wr.alloc (.cells #[.int .i32 0, .string ⟨#[]⟩, .int .i64 0, .int .i64 x.fk, .int .i64 x.fn, .int .i64 x.bk, .int .i64 x.bn, .int .i64 x.fl] 54)).alloc (.cells #[.int .i32 y.r, .string y.m, .int .i64 y.h, .int .i64 y.fk, .int .i64 y.fn, .int .i64 y.bk, .int .i64 y.bn, .int .i64 y.fl] 54)).alloc (.cells #[.int .i32 0, .string ⟨#[]⟩, .int .i64 0, .int .i64 x.fk, .int .i64 x.fn, .int .i64 x.bk, .int .i64 x.bn, .int .i64 x.fl] 54)).grownBy w5 (Value.slice Ao i co).ownBlock → (∃ out, mendAt l out (i + 1) false ∧ w5.ownsRow w.heap.size 54 8 v5 (i + 1) (cellsC out)) ∧ Below w.heap.size w w5) := Lib.hid fun v5 w5 h1 h2 => HEND.out _ _ _ _ _ (belA (belA (belA (Below.refl _ _) _) _) _) HMA.out h1 h2
                    go_wp2_with (at_builtin; go_must (refine wpList_append_own _ rfl _ _ 29 rfl w.heap.size 54 i0 _ 8 72 Try.underlying29 hi0 hz0 hz1 hz2 rfl (by decide) (.slice Ao i co) i ol rfl (HOWN.out _ (belA (belA (belA (Below.refl _ _) _) _) _)) ⟨wr.heap.size + 2, 0, none⟩ 1 1 (encC (bare x)) rfl rfl HN5.out (encC_one (bare x)) (by unfold maxLen; omega) (by omega) (by simp; omega) ?_; intro v5 w5 hown5 hgrow5 _; have HZ := Lib.hid (HE5.out _ _ hown5 hgrow5); clear hown5 hgrow5))
                    go_roundw
                    case rel => exact ⟨i + 1, _, false, rfl, rfl, by go_num, hlt, Lib.hid HZ.out.1, Lib.hid HZ.out.2⟩
                    case measure => simp [intOf]; omega
                  · rw [f4] at hq
                    have HMA : Hid (mendAt l (out ++ [x]) (i + 1) true) := Lib.hid (by
                      rw [← HXI.out]
                      exact mendAt_first hma (by have := HN.out; omega) (by rw [HXI.out, HYI.out, HPB.out, f1, f2, f3, f4]; rfl))
                    clear hma hown GA hG HO
                    generalize cellsC out = ol at HOWN HEND
                    clear h1 hl HPB g1
                    have HN5 : Hid (∀ j u, (encC x)[j]? = some u → (((wr.alloc (.cells #[.int .i32 x.r, .string x.m, .int .i64 x.h, .int .i64 x.fk, .int .i64 x.fn, .int .i64 x.bk, .int .i64 x.bn, .int .i64 x.fl] 54)).alloc (.cells #[.int .i32 y.r, .string y.m, .int .i64 y.h, .int .i64 y.fk, .int .i64 y.fn, .int .i64 y.bk, .int .i64 y.bn, .int .i64 y.fl] 54)).alloc (.cells #[.int .i32 x.r, .string x.m, .int .i64 x.h, .int .i64 x.fk, .int .i64 x.fn, .int .i64 x.bk, .int .i64 x.bn, .int .i64 x.fl] 54)).cell? ((⟨wr.heap.size + 2, 0, none⟩ : Addr).add j) = some u) := Lib.hid (newsAt (by simp) x _)
                    have HE5 : Hid (∀ v5 w5, w5.ownsRow w.heap.size 54 8 v5 (i + 1) (ol ++ encC x) → (((wr.alloc (.cells #[.int .i32 x.r, .string x.m, .int .i64 x.h, .int .i64 x.fk, .int .i64 x.fn, .int .i64 x.bk, .int .i64 x.bn, .int .i64 x.fl] 54)).alloc (.cells #[.int .i32 y.r, .string y.m, .int .i64 y.h, .int .i64 y.fk, .int .i64 y.fn, .int .i64 y.bk, .int .i64 y.bn, .int .i64 y.fl] 54)).alloc (.cells #[.int .i32 x.r, .string x.m, .int .i64 x.h, .int .i64 x.fk, .int .i64 x.fn, .int .i64 x.bk, .int .i64 x.bn, .int .i64 x.fl] 54)).grownBy w5 (Value.slice Ao i co).ownBlock → (∃ out, mendAt l out (i + 1) true ∧ w5.ownsRow w.heap.size 54 8 v5 (i + 1) (cellsC out)) ∧ Below w.heap.size w w5) := Lib.hid fun v5 w5 h1 h2 => HEND.out _ _ _ _ _ (belA (belA (belA (Below.refl _ _) _) _) _) HMA.out h1 h2
                    go_wp2_with (at_builtin; go_must (refine wpList_append_own _ rfl _ _ 29 rfl w.heap.size 54 i0 _ 8 72 Try.underlying29 hi0 hz0 hz1 hz2 rfl (by decide) (.slice Ao i co) i ol rfl (HOWN.out _ (belA (belA (belA (Below.refl _ _) _) _) _)) ⟨wr.heap.size + 2, 0, none⟩ 1 1 (encC x) rfl rfl HN5.out (encC_one x) (by unfold maxLen; omega) (by omega) (by simp; omega) ?_; intro v5 w5 hown5 hgrow5 _; have HZ := Lib.hid (HE5.out _ _ hown5 hgrow5); clear hown5 hgrow5))
                    go_roundw
                    case rel => exact ⟨i + 1, _, true, rfl, rfl, by go_num, hlt, Lib.hid HZ.out.1, Lib.hid HZ.out.2⟩
                    case measure => simp [intOf]; omega
            · have f1 : (y.h == 2) = false := by simpa using g1
              have HPN : Hid (i + 1 < l.length → pairB (Ac l i) (Ac l (i + 1)) = false) := Lib.hid fun _ => by rw [HXI.out, HYI.out, HPB.out, f1]; simp
              have HMA : Hid (mendAt l (out ++ [bare x]) (i + 1) false) := Lib.hid (mendAt_one hma (by have := HN.out; omega) HPN.out _ (by rw [HXI.out, if_neg (by have := HN.out; omega)]))
              clear hma hown GA hG HO
              generalize cellsC out = ol at HOWN HEND
              clear h1 hl HPB g1
              have HN5 : Hid (∀ j u, (encC (bare x))[j]? = some u → (((wr.alloc (.cells #[.int .i32 0, .string ⟨#[]⟩, .int .i64 0, .int .i64 x.fk, .int .i64 x.fn, .int .i64 x.bk, .int .i64 x.bn, .int .i64 x.fl] 54)).alloc (.cells #[.int .i32 y.r, .string y.m, .int .i64 y.h, .int .i64 y.fk, .int .i64 y.fn, .int .i64 y.bk, .int .i64 y.bn, .int .i64 y.fl] 54)).alloc (.cells #[.int .i32 0, .string ⟨#[]⟩, .int .i64 0, .int .i64 x.fk, .int .i64 x.fn, .int .i64 x.bk, .int .i64 x.bn, .int .i64 x.fl] 54)).cell? ((⟨wr.heap.size + 2, 0, none⟩ : Addr).add j) = some u) := Lib.hid (newsAt (by simp) (bare x) _)
              have HE5 : Hid (∀ v5 w5, w5.ownsRow w.heap.size 54 8 v5 (i + 1) (ol ++ encC (bare x)) → (((wr.alloc (.cells #[.int .i32 0, .string ⟨#[]⟩, .int .i64 0, .int .i64 x.fk, .int .i64 x.fn, .int .i64 x.bk, .int .i64 x.bn, .int .i64 x.fl] 54)).alloc (.cells #[.int .i32 y.r, .string y.m, .int .i64 y.h, .int .i64 y.fk, .int .i64 y.fn, .int .i64 y.bk, .int .i64 y.bn, .int .i64 y.fl] 54)).alloc (.cells #[.int .i32 0, .string ⟨#[]⟩, .int .i64 0, .int .i64 x.fk, .int .i64 x.fn, .int .i64 x.bk, .int .i64 x.bn, .int .i64 x.fl] 54)).grownBy w5 (Value.slice Ao i co).ownBlock → (∃ out, mendAt l out (i + 1) false ∧ w5.ownsRow w.heap.size 54 8 v5 (i + 1) (cellsC out)) ∧ Below w.heap.size w w5) := Lib.hid fun v5 w5 h1 h2 => HEND.out _ _ _ _ _ (belA (belA (belA (Below.refl _ _) _) _) _) HMA.out h1 h2
              go_wp2_with (at_builtin; go_must (refine wpList_append_own _ rfl _ _ 29 rfl w.heap.size 54 i0 _ 8 72 Try.underlying29 hi0 hz0 hz1 hz2 rfl (by decide) (.slice Ao i co) i ol rfl (HOWN.out _ (belA (belA (belA (Below.refl _ _) _) _) _)) ⟨wr.heap.size + 2, 0, none⟩ 1 1 (encC (bare x)) rfl rfl HN5.out (encC_one (bare x)) (by unfold maxLen; omega) (by omega) (by simp; omega) ?_; intro v5 w5 hown5 hgrow5 _; have HZ := Lib.hid (HE5.out _ _ hown5 hgrow5); clear hown5 hgrow5))
              go_roundw
              case rel => exact ⟨i + 1, _, false, rfl, rfl, by go_num, hlt, Lib.hid HZ.out.1, Lib.hid HZ.out.2⟩
              case measure => simp [intOf]; omega
          · have HYI : Hid True := Lib.hid trivial
            have hd : decide ((i : Int) < (n : Int) - 1) = false := decide_eq_false (by omega)
            have HPN : Hid (i + 1 < l.length → pairB (Ac l i) (Ac l (i + 1)) = false) := Lib.hid fun h => by have := HN.out; omega
            have HMA : Hid (mendAt l (out ++ [bare x]) (i + 1) false) := Lib.hid (mendAt_one hma (by have := HN.out; omega) HPN.out _ (by rw [HXI.out, if_neg (by have := HN.out; omega)]))
            clear hma hown GA hG HO HXI HYI
            generalize cellsC out = ol at HOWN HEND
            clear h1 hl
            have HN5 : Hid (∀ j u, (encC (bare x))[j]? = some u → ((wr.alloc (.cells #[.int .i32 0, .string ⟨#[]⟩, .int .i64 0, .int .i64 x.fk, .int .i64 x.fn, .int .i64 x.bk, .int .i64 x.bn, .int .i64 x.fl] 54)).alloc (.cells #[.int .i32 0, .string ⟨#[]⟩, .int .i64 0, .int .i64 x.fk, .int .i64 x.fn, .int .i64 x.bk, .int .i64 x.bn, .int .i64 x.fl] 54)).cell? ((⟨wr.heap.size + 1, 0, none⟩ : Addr).add j) = some u) := Lib.hid (newsAt (by simp) (bare x) _)
            have HE5 : Hid (∀ v5 w5, w5.ownsRow w.heap.size 54 8 v5 (i + 1) (ol ++ encC (bare x)) → ((wr.alloc (.cells #[.int .i32 0, .string ⟨#[]⟩, .int .i64 0, .int .i64 x.fk, .int .i64 x.fn, .int .i64 x.bk, .int .i64 x.bn, .int .i64 x.fl] 54)).alloc (.cells #[.int .i32 0, .string ⟨#[]⟩, .int .i64 0, .int .i64 x.fk, .int .i64 x.fn, .int .i64 x.bk, .int .i64 x.bn, .int .i64 x.fl] 54)).grownBy w5 (Value.slice Ao i co).ownBlock → (∃ out, mendAt l out (i + 1) false ∧ w5.ownsRow w.heap.size 54 8 v5 (i + 1) (cellsC out)) ∧ Below w.heap.size w w5) := Lib.hid fun v5 w5 h1 h2 => HEND.out _ _ _ _ _ (belA (belA (Below.refl _ _) _) _) HMA.out h1 h2
            go_wp2_with (at_builtin; go_must (refine wpList_append_own _ rfl _ _ 29 rfl w.heap.size 54 i0 _ 8 72 Try.underlying29 hi0 hz0 hz1 hz2 rfl (by decide) (.slice Ao i co) i ol rfl (HOWN.out _ (belA (belA (Below.refl _ _) _) _)) ⟨wr.heap.size + 1, 0, none⟩ 1 1 (encC (bare x)) rfl rfl HN5.out (encC_one (bare x)) (by unfold maxLen; omega) (by omega) (by simp; omega) ?_; intro v5 w5 hown5 hgrow5 _; have HZ := Lib.hid (HE5.out _ _ hown5 hgrow5); clear hown5 hgrow5))
            go_roundw
            case rel => exact ⟨i + 1, _, false, rfl, rfl, by go_num, hlt, Lib.hid HZ.out.1, Lib.hid HZ.out.2⟩
            case measure => simp [intOf]; omega
        · have HYI : Hid True := Lib.hid trivial
          have e1 : (x.h == 1) = false := by simpa using h1
          have HPN : Hid (i + 1 < l.length → pairB (Ac l i) (Ac l (i + 1)) = false) := Lib.hid fun _ => by unfold pairB; rw [HXI.out, e1]; rfl
          by_cases h0 : x.h = 0
          · have e0 : (x.h == 0) = true := by simpa using h0
            have HMA : Hid (mendAt l (out ++ [x]) (i + 1) false) := Lib.hid (mendAt_one hma (by have := HN.out; omega) HPN.out _ (by rw [HXI.out, if_pos (.inl h0)]))
            clear hma hown GA hG HO HXI HYI
            generalize cellsC out = ol at HOWN HEND
            clear h1 h0
            have HN5 : Hid (∀ j u, (encC x)[j]? = some u → ((wr.alloc (.cells #[.int .i32 x.r, .string x.m, .int .i64 x.h, .int .i64 x.fk, .int .i64 x.fn, .int .i64 x.bk, .int .i64 x.bn, .int .i64 x.fl] 54)).alloc (.cells #[.int .i32 x.r, .string x.m, .int .i64 x.h, .int .i64 x.fk, .int .i64 x.fn, .int .i64 x.bk, .int .i64 x.bn, .int .i64 x.fl] 54)).cell? ((⟨wr.heap.size + 1, 0, none⟩ : Addr).add j) = some u) := Lib.hid (newsAt (by simp) x _)
            have HE5 : Hid (∀ v5 w5, w5.ownsRow w.heap.size 54 8 v5 (i + 1) (ol ++ encC x) → ((wr.alloc (.cells #[.int .i32 x.r, .string x.m, .int .i64 x.h, .int .i64 x.fk, .int .i64 x.fn, .int .i64 x.bk, .int .i64 x.bn, .int .i64 x.fl] 54)).alloc (.cells #[.int .i32 x.r, .string x.m, .int .i64 x.h, .int .i64 x.fk, .int .i64 x.fn, .int .i64 x.bk, .int .i64 x.bn, .int .i64 x.fl] 54)).grownBy w5 (Value.slice Ao i co).ownBlock → (∃ out, mendAt l out (i + 1) false ∧ w5.ownsRow w.heap.size 54 8 v5 (i + 1) (cellsC out)) ∧ Below w.heap.size w w5) := Lib.hid fun v5 w5 h1 h2 => HEND.out _ _ _ _ _ (belA (belA (Below.refl _ _) _) _) HMA.out h1 h2
            go_wp2_with (at_builtin; go_must (refine wpList_append_own _ rfl _ _ 29 rfl w.heap.size 54 i0 _ 8 72 Try.underlying29 hi0 hz0 hz1 hz2 rfl (by decide) (.slice Ao i co) i ol rfl (HOWN.out _ (belA (belA (Below.refl _ _) _) _)) ⟨wr.heap.size + 1, 0, none⟩ 1 1 (encC x) rfl rfl HN5.out (encC_one x) (by unfold maxLen; omega) (by omega) (by simp; omega) ?_; intro v5 w5 hown5 hgrow5 _; have HZ := Lib.hid (HE5.out _ _ hown5 hgrow5); clear hown5 hgrow5))
            go_roundw
            case rel => exact ⟨i + 1, _, false, rfl, rfl, by go_num, hlt, Lib.hid HZ.out.1, Lib.hid HZ.out.2⟩
            case measure => simp [intOf]; omega
          · have e0 : (x.h == 0) = false := by simpa using h0
            by_cases h3 : x.h = 3
            · have e3 : (x.h == 3) = true := by simpa using h3
              by_cases hl : i + 1 = n
              · have hd : ((i : Int) == (n : Int) - 1) = true := by simp; omega
                have HMA : Hid (mendAt l (out ++ [x]) (i + 1) false) := Lib.hid (mendAt_one hma (by have := HN.out; omega) HPN.out _ (by rw [HXI.out, if_pos (.inr ⟨h3, by have := HN.out; omega⟩)]))
                clear hma hown GA hG HO HXI HYI
                generalize cellsC out = ol at HOWN HEND
                clear h1 h0 h3
                have HN5 : Hid (∀ j u, (encC x)[j]? = some u → ((wr.alloc (.cells #[.int .i32 x.r, .string x.m, .int .i64 x.h, .int .i64 x.fk, .int .i64 x.fn, .int .i64 x.bk, .int .i64 x.bn, .int .i64 x.fl] 54)).alloc (.cells #[.int .i32 x.r, .string x.m, .int .i64 x.h, .int .i64 x.fk, .int .i64 x.fn, .int .i64 x.bk, .int .i64 x.bn, .int .i64 x.fl] 54)).cell? ((⟨wr.heap.size + 1, 0, none⟩ : Addr).add j) = some u) := Lib.hid (newsAt (by simp) x _)
                have HE5 : Hid (∀ v5 w5, w5.ownsRow w.heap.size 54 8 v5 (i + 1) (ol ++ encC x) → ((wr.alloc (.cells #[.int .i32 x.r, .string x.m, .int .i64 x.h, .int .i64 x.fk, .int .i64 x.fn, .int .i64 x.bk, .int .i64 x.bn, .int .i64 x.fl] 54)).alloc (.cells #[.int .i32 x.r, .string x.m, .int .i64 x.h, .int .i64 x.fk, .int .i64 x.fn, .int .i64 x.bk, .int .i64 x.bn, .int .i64 x.fl] 54)).grownBy w5 (Value.slice Ao i co).ownBlock → (∃ out, mendAt l out (i + 1) false ∧ w5.ownsRow w.heap.size 54 8 v5 (i + 1) (cellsC out)) ∧ Below w.heap.size w w5) := Lib.hid fun v5 w5 h1 h2 => HEND.out _ _ _ _ _ (belA (belA (Below.refl _ _) _) _) HMA.out h1 h2
                go_wp2_with (at_builtin; go_must (refine wpList_append_own _ rfl _ _ 29 rfl w.heap.size 54 i0 _ 8 72 Try.underlying29 hi0 hz0 hz1 hz2 rfl (by decide) (.slice Ao i co) i ol rfl (HOWN.out _ (belA (belA (Below.refl _ _) _) _)) ⟨wr.heap.size + 1, 0, none⟩ 1 1 (encC x) rfl rfl HN5.out (encC_one x) (by unfold maxLen; omega) (by omega) (by simp; omega) ?_; intro v5 w5 hown5 hgrow5 _; have HZ := Lib.hid (HE5.out _ _ hown5 hgrow5); clear hown5 hgrow5))
                go_roundw
                case rel => exact ⟨i + 1, _, false, rfl, rfl, by go_num, hlt, Lib.hid HZ.out.1, Lib.hid HZ.out.2⟩
                case measure => simp [intOf]; omega
              · have hd : ((i : Int) == (n : Int) - 1) = false := by simp; omega
                have HMA : Hid (mendAt l (out ++ [bare x]) (i + 1) false) := Lib.hid (mendAt_one hma (by have := HN.out; omega) HPN.out _ (by rw [HXI.out, if_neg (by have := HN.out; omega)]))
                clear hma hown GA hG HO HXI HYI
                generalize cellsC out = ol at HOWN HEND
                clear h1 h0 h3
                have HN5 : Hid (∀ j u, (encC (bare x))[j]? = some u → ((wr.alloc (.cells #[.int .i32 0, .string ⟨#[]⟩, .int .i64 0, .int .i64 x.fk, .int .i64 x.fn, .int .i64 x.bk, .int .i64 x.bn, .int .i64 x.fl] 54)).alloc (.cells #[.int .i32 0, .string ⟨#[]⟩, .int .i64 0, .int .i64 x.fk, .int .i64 x.fn, .int .i64 x.bk, .int .i64 x.bn, .int .i64 x.fl] 54)).cell? ((⟨wr.heap.size + 1, 0, none⟩ : Addr).add j) = some u) := Lib.hid (newsAt (by simp) (bare x) _)
                have HE5 : Hid (∀ v5 w5, w5.ownsRow w.heap.size 54 8 v5 (i + 1) (ol ++ encC (bare x)) → ((wr.alloc (.cells #[.int .i32 0, .string ⟨#[]⟩, .int .i64 0, .int .i64 x.fk, .int .i64 x.fn, .int .i64 x.bk, .int .i64 x.bn, .int .i64 x.fl] 54)).alloc (.cells #[.int .i32 0, .string ⟨#[]⟩, .int .i64 0, .int .i64 x.fk, .int .i64 x.fn, .int .i64 x.bk, .int .i64 x.bn, .int .i64 x.fl] 54)).grownBy w5 (Value.slice Ao i co).ownBlock → (∃ out, mendAt l out (i + 1) false ∧ w5.ownsRow w.heap.size 54 8 v5 (i + 1) (cellsC out)) ∧ Below w.heap.size w w5) := Lib.hid fun v5 w5 h1 h2 => HEND.out _ _ _ _ _ (belA (belA (Below.refl _ _) _) _) HMA.out h1 h2
                go_wp2_with (at_builtin; go_must (refine wpList_append_own _ rfl _ _ 29 rfl w.heap.size 54 i0 _ 8 72 Try.underlying29 hi0 hz0 hz1 hz2 rfl (by decide) (.slice Ao i co) i ol rfl (HOWN.out _ (belA (belA (Below.refl _ _) _) _)) ⟨wr.heap.size + 1, 0, none⟩ 1 1 (encC (bare x)) rfl rfl HN5.out (encC_one (bare x)) (by unfold maxLen; omega) (by omega) (by simp; omega) ?_; intro v5 w5 hown5 hgrow5 _; have HZ := Lib.hid (HE5.out _ _ hown5 hgrow5); clear hown5 hgrow5))
                go_roundw
                case rel => exact ⟨i + 1, _, false, rfl, rfl, by go_num, hlt, Lib.hid HZ.out.1, Lib.hid HZ.out.2⟩
                case measure => simp [intOf]; omega
            · have e3 : (x.h == 3) = false := by simpa using h3
              have HMA : Hid (mendAt l (out ++ [bare x]) (i + 1) false) := Lib.hid (mendAt_one hma (by have := HN.out; omega) HPN.out _ (by rw [HXI.out, if_neg (by have := HN.out; omega)]))
              clear hma hown GA hG HO HXI HYI
              generalize cellsC out = ol at HOWN HEND
              clear h1 h0 h3
              have HN5 : Hid (∀ j u, (encC (bare x))[j]? = some u → ((wr.alloc (.cells #[.int .i32 0, .string ⟨#[]⟩, .int .i64 0, .int .i64 x.fk, .int .i64 x.fn, .int .i64 x.bk, .int .i64 x.bn, .int .i64 x.fl] 54)).alloc (.cells #[.int .i32 0, .string ⟨#[]⟩, .int .i64 0, .int .i64 x.fk, .int .i64 x.fn, .int .i64 x.bk, .int .i64 x.bn, .int .i64 x.fl] 54)).cell? ((⟨wr.heap.size + 1, 0, none⟩ : Addr).add j) = some u) := Lib.hid (newsAt (by simp) (bare x) _)
              have HE5 : Hid (∀ v5 w5, w5.ownsRow w.heap.size 54 8 v5 (i + 1) (ol ++ encC (bare x)) → ((wr.alloc (.cells #[.int .i32 0, .string ⟨#[]⟩, .int .i64 0, .int .i64 x.fk, .int .i64 x.fn, .int .i64 x.bk, .int .i64 x.bn, .int .i64 x.fl] 54)).alloc (.cells #[.int .i32 0, .string ⟨#[]⟩, .int .i64 0, .int .i64 x.fk, .int .i64 x.fn, .int .i64 x.bk, .int .i64 x.bn, .int .i64 x.fl] 54)).grownBy w5 (Value.slice Ao i co).ownBlock → (∃ out, mendAt l out (i + 1) false ∧ w5.ownsRow w.heap.size 54 8 v5 (i + 1) (cellsC out)) ∧ Below w.heap.size w w5) := Lib.hid fun v5 w5 h1 h2 => HEND.out _ _ _ _ _ (belA (belA (Below.refl _ _) _) _) HMA.out h1 h2
              go_wp2_with (at_builtin; go_must (refine wpList_append_own _ rfl _ _ 29 rfl w.heap.size 54 i0 _ 8 72 Try.underlying29 hi0 hz0 hz1 hz2 rfl (by decide) (.slice Ao i co) i ol rfl (HOWN.out _ (belA (belA (Below.refl _ _) _) _)) ⟨wr.heap.size + 1, 0, none⟩ 1 1 (encC (bare x)) rfl rfl HN5.out (encC_one (bare x)) (by unfold maxLen; omega) (by omega) (by simp; omega) ?_; intro v5 w5 hown5 hgrow5 _; have HZ := Lib.hid (HE5.out _ _ hown5 hgrow5); clear hown5 hgrow5))
              go_roundw
              case rel => exact ⟨i + 1, _, false, rfl, rfl, by go_num, hlt, Lib.hid HZ.out.1, Lib.hid HZ.out.2⟩
              case measure => simp [intOf]; omega
    · obtain rfl : i = n := by omega
      have HE : Hid (OC w.heap.size wr vo (mendL l)) := Lib.hid (by
        obtain ⟨out, h1, h2⟩ := HO.out
        rw [HN.out] at h1 h2
        rw [mendAt_end h1]
        exact OC.of_own h2 h1.1.symm)
      clear HO
      go_wp2
      go_ret
      exact ⟨_, rfl, HE.out, HB.out⟩
theorem refMend_any (A : Option Addr) (l : List CC) (n c : Nat) (hn : n = l.length) (hl : n ≤ 1000) (w : World) (h : RC w w.heap.size A l) :
    Calls Try.prog 28 #[.slice A n c] w fun e w' => ∃ v, e = .returned v ∧ OC w.heap.size w' v (mendL l) ∧ Below w.heap.size w w' :=
  refMend_big A l n c hn (by omega) w h
end Go.Proofs.Ytfjgfmeanehpmaa
