/- What the listed variables give: both tables lie in memory; and the frame of each law's proof: from the walk to the row. -/
import Derived.Test.YtacmldggdacdpabDoorRows
import Derived.Test.YtacmldggdacdpabDoorWh
import Derived.ProofKit
import Derived.LaidMore
import Derived.OpenShut
import Derived.Stop.Joined
namespace Go.Proofs.YtacmldggdacdpabDoor
open Go.ChangeShapes Go.WideShapes Go.ChangeAt Go.WideMaps Go.WideElems Go.RowKit

theorem own : ownKnob Tryd.prog.godebug = none := by kernel_rfl
theorem laidOut : laidOutB Tryd.prog = true := by kernel_rfl
def pairD {H : Type} (x : Int × Int) : DataW H := .agg [.lit (.int .i32 x.1), .lit (.int .i32 x.2)]
theorem c21 : Tryd.prog.cellsOf 21 = 1 := by kernel_rfl
theorem c60 : Tryd.prog.cellsOf 27 = 2 := by kernel_rfl

theorem cell_of_cut {cs : List Value} {a j : Nat} {v : Value} (hj : j < 2) (h : ((((cs.drop a).take 2).drop (j * 1)).take 1) = [v]) : cs[a + j]? = some v := by
  have h0 : ((((cs.drop a).take 2).drop (j * 1)).take 1)[0]? = some v := by rw [h]; rfl
  rw [List.getElem?_take, if_pos (by omega), List.getElem?_drop, List.getElem?_take, if_pos (by omega), List.getElem?_drop] at h0
  simpa using h0

theorem pair_of_trod {H : Type} {enc : TypeId × Value → H} {W : World} {base : Nat} {keep : Nat → Bool} {b : Bool} {fuel : Nat} {cs : List Value} {x : Int × Int} {p : List MemPlace}
    (h : DataW.trod enc Tryd.prog W base keep b fuel 27 cs = some (pairD x, p)) : ∀ j, j < 2 → ((cs.drop (j * 1)).take 1) = [.int .i32 (if j = 0 then x.1 else x.2)] := by
  obtain ⟨ys, m, rfl, hx, _, hn, hel⟩ := DataW.trod_array Tryd.underlying27 h
  rw [c21] at hel
  simp only [pairD, Prod.mk.injEq, DataW.agg.injEq] at hx
  obtain ⟨hx, _⟩ := hx
  match ys, hn with
  | [y0, y1], _ =>
    simp only [List.map_cons, List.map_nil, List.cons.injEq, and_true] at hx
    intro j hj
    match j, hj with
    | 0, _ =>
      obtain ⟨k, e1, e2, _⟩ := DataW.trod_int Tryd.underlying21 (show DataW.trod enc Tryd.prog W base keep b m 21 _ = some y0 from hel 0 (by decide))
      have hk : k = x.1 := by rw [e2] at hx; simpa using hx.1.symm
      rw [e1, hk]; rfl
    | 1, _ =>
      obtain ⟨k, e1, e2, _⟩ := DataW.trod_int Tryd.underlying21 (show DataW.trod enc Tryd.prog W base keep b m 21 _ = some y1 from hel 1 (by decide))
      have hk : k = x.2 := by rw [e2] at hx; simpa using hx.2.symm
      rw [e1, hk]; rfl

theorem tab_of_trod {H : Type} {enc : TypeId × Value → H} {W : World} {base : Nat} {keep : Nat → Bool} {b : Bool} {fuel : Nat} {cs : List Value} {l : List (Int × Int)} {p : List MemPlace} {T n : Nat}
    (hT : Tryd.prog.underlying T = some (.array n 27)) (h : DataW.trod enc Tryd.prog W base keep b fuel T cs = some (.agg (l.map pairD), p)) :
    ∀ k, k < l.length → cs[k * 2]? = some (.int .i32 (l[k]?.getD (0, 0)).1) ∧ cs[k * 2 + 1]? = some (.int .i32 (l[k]?.getD (0, 0)).2) := by
  obtain ⟨xs, m, rfl, hx, _, hn, hel⟩ := DataW.trod_array hT h
  rw [c60] at hel
  simp only [Prod.mk.injEq, DataW.agg.injEq] at hx
  obtain ⟨hx, _⟩ := hx
  intro k hk
  have hlen : xs.length = l.length := by have := congrArg List.length hx; simpa using this.symm
  have h0 := hel k (by omega)
  rw [List.getElem?_eq_getElem (by omega : k < xs.length)] at h0
  have e1 : (xs[k]'(by omega)).1 = pairD l[k] := by
    have := congrArg (fun l => l[k]?) hx
    simp only [List.getElem?_map, List.getElem?_eq_getElem hk, List.getElem?_eq_getElem (by omega : k < xs.length), Option.map_some, Option.some.injEq] at this
    exact this.symm
  have h1 := pair_of_trod (x := l[k]) (p := (xs[k]'(by omega)).2) (by rw [← e1]; exact h0)
  rw [List.getElem?_eq_getElem hk]
  exact ⟨cell_of_cut (j := 0) (by decide) (h1 0 (by decide)), cell_of_cut (j := 1) (by decide) (h1 1 (by decide))⟩

theorem gMarks : Tryd.prog.globalNamed "marquee/width.marks" = some 0 := by kernel_rfl
theorem gWides : Tryd.prog.globalNamed "marquee/width.wides" = some 1 := by kernel_rfl
theorem tMarks : (Tryd.prog.globals[0]?).map (·.type) = some 30 := by kernel_rfl
theorem tWides : (Tryd.prog.globals[1]?).map (·.type) = some 31 := by kernel_rfl
def laidW : List (String × DataW Unit) := [("marquee/width.marks", Rows.laid_marquee_width_marks), ("marquee/width.wides", Rows.laid_marquee_width_wides)]

theorem var_lt {P : Program} {w : World} {n : String} {g : Nat} {cs : Array Value} (hg : P.globalNamed n = some g) (h : w.var? P n = some cs) : g < w.heap.size := by
  simp only [World.var?, hg, Option.bind_some] at h
  rcases Nat.lt_or_ge g w.heap.size with hl | hl
  · exact hl
  · rw [Array.getElem?_eq_none hl] at h
    simp at h

/-- WHAT THE CONDITION GIVES THE WALKS. -/
theorem wt_of_laid {W : World} (h : laidMetH Tryd.prog laidW W) : WT W := by
  rw [MakeChecks.laidMetH_plain _ _ _ (by kernel_rfl)] at h
  obtain ⟨ps, ⟨g0, t0, cs0, f0, p0, q0, hg0, ht0, hv0, hd0, ⟨g1, t1, cs1, f1, p1, q1, hg1, ht1, hv1, hd1, _, _⟩, _⟩, _, _⟩ := h
  obtain rfl := Option.some.inj (gMarks.symm.trans hg0)
  obtain rfl := Option.some.inj (gWides.symm.trans hg1)
  obtain rfl := Option.some.inj (tMarks.symm.trans ht0)
  obtain rfl := Option.some.inj (tWides.symm.trans ht1)
  have k0 := tab_of_trod (l := marksL) Tryd.underlying30 hd0
  have k1 := tab_of_trod (l := widesL) Tryd.underlying31 hd1
  refine ⟨⟨var_lt hg0 hv0, fun k hk => ⟨?_, ?_⟩⟩, ⟨var_lt hg1 hv1, fun k hk => ⟨?_, ?_⟩⟩⟩
  · exact (World.var?_cell hg0 hv0 _).trans (by simpa using (k0 k hk).1)
  · exact (World.var?_cell hg0 hv0 _).trans (by simpa using (k0 k hk).2)
  · exact (World.var?_cell hg1 hv1 _).trans (by simpa using (k1 k hk).1)
  · exact (World.var?_cell hg1 hv1 _).trans (by simpa using (k1 k hk).2)

theorem lt_of_cell {w : World} {b o : Nat} {v : Value} (h : w.cell? ⟨b, o, none⟩ = some v) : b < w.heap.size := by
  rcases Nat.lt_or_ge b w.heap.size with hl | hl
  · exact hl
  · simp [World.cell?, Array.getElem?_eq_none hl] at h
/-- A slice of scalars that came in. -/
theorem open_runes {H : Type} {enc : TypeId × Value → H} {W : World} {A : Option Addr} {n c : Nat} {d : DataW H} {p : List MemPlace} (h : DataW.Trod enc Tryd.prog W 0 (fun _ => true) true 24 (.slice A n c) d p) :
    ∃ xs : List Int, n = xs.length ∧ n ≤ c ∧ c ≤ 9223372036854775807 ∧ RS W W.heap.size A xs := by
  obtain ⟨fuel, hf⟩ := h
  rcases open_ints Tryd.underlying24 Tryd.underlying21 c21 hf with ⟨hcs, _⟩ | ⟨a, len, cap, zs, hcs, _, hl, hm, hz, _, hcell, _⟩
  · have e : Value.slice A n c = .slice none 0 0 := by simpa [Value.cells] using hcs
    injection e with e1 e2 e3
    subst e1; subst e2; subst e3
    exact ⟨[], rfl, Nat.le_refl _, by omega, fun h => absurd rfl h⟩
  · have e : Value.slice A n c = .slice (some a) len cap := by simpa [Value.cells] using hcs
    injection e with e1 e2 e3
    subst e1; subst e2; subst e3
    have hzl : zs.length = c := by simpa using hz
    refine ⟨zs.take n, by simp; omega, hl, by unfold maxLen at hm; omega, fun hne => ?_⟩
    have hpos : 0 < zs.length := by
      rcases Nat.eq_zero_or_pos zs.length with h0 | h0
      · rw [List.eq_nil_of_length_eq_zero h0] at hne; simp at hne
      · exact h0
    obtain ⟨b, off, rfl, hc⟩ := ints_at hcell hpos
    refine ⟨b, off, rfl, lt_of_cell (hc 0 hpos), fun k hk => ?_⟩
    have hk' : k < n := by simp at hk; omega
    rw [hc k (by omega), List.getElem?_take, if_pos hk']
    rfl

/-- The door's own heap meets the condition: three closed facts. -/
theorem doorW_met (os : Os) (args : Array Value) : laidMetH Tryd.prog laidW ((World.doorLaid Tryd.prog 400 os).forCall (fun _ _ => 0) ⟨#[], args, []⟩).memory :=
  laidMetH_of_parts3 (fuel := 8) (laidMet_of_run' 8 (by kernel_rfl) (by kernel_rfl)) (by kernel_rfl) (by kernel_rfl)

end Go.Proofs.YtacmldggdacdpabDoor
