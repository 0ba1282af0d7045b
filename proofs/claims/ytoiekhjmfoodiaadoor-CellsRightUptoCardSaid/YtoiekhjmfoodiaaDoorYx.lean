/- What the listed tables of widths give; what is done to rows, that came in, opened. -/
import Derived.Test.YtoiekhjmfoodiaaDoorRows
import Derived.Test.YtoiekhjmfoodiaaDoorHk
import Derived.Test.YtoiekhjmfoodiaaDoorHl
import Derived.Test.YtoiekhjmfoodiaaDoorGz
namespace Go.Proofs.YtoiekhjmfoodiaaDoor
open Go.ChangeShapes Go.WideShapes Go.ChangeAt Go.WideMaps Go.WideElems Go.RowKit

def laidH : List (String × DataW Unit) := [("marquee/width.marks", Rows.laid_marquee_width_marks), ("marquee/width.wides", Rows.laid_marquee_width_wides)]
set_option maxRecDepth 100000 in
theorem wt_of_laidH {W : World} (h : laidMetH Tryd.prog laidH W) : WT W := by
  rw [MakeChecks.laidMetH_plain _ _ _ (by kernel_rfl)] at h
  obtain ⟨ps, ⟨g0, t0, cs0, f0, p0, q0, hg0, ht0, hv0, hd0, ⟨g1, t1, cs1, f1, p1, q1, hg1, ht1, hv1, hd1, _, _⟩, _⟩, _, _⟩ := h
  obtain rfl := Option.some.inj (gMarks.symm.trans hg0)
  obtain rfl := Option.some.inj (gWides.symm.trans hg1)
  obtain rfl := Option.some.inj (tMarks.symm.trans ht0)
  obtain rfl := Option.some.inj (tWides.symm.trans ht1)
  have k0 := tab_of_trod (l := marksL) Tryd.underlying81 hd0
  have k1 := tab_of_trod (l := widesL) Tryd.underlying83 hd1
  refine ⟨⟨var_lt hg0 hv0, fun k hk => ⟨?_, ?_⟩⟩, ⟨var_lt hg1 hv1, fun k hk => ⟨?_, ?_⟩⟩⟩
  · exact (World.var?_cell hg0 hv0 _).trans (by simpa using (k0 k hk).1)
  · exact (World.var?_cell hg0 hv0 _).trans (by simpa using (k0 k hk).2)
  · exact (World.var?_cell hg1 hv1 _).trans (by simpa using (k1 k hk).1)
  · exact (World.var?_cell hg1 hv1 _).trans (by simpa using (k1 k hk).2)
set_option maxRecDepth 100000 in
theorem doorH_met (os : Os) (args : Array Value) : laidMetH Tryd.prog laidH ((World.doorLaid Tryd.prog 400 os).forCall (fun _ _ => 0) ⟨#[], args, []⟩).memory :=
  laidMetH_of_parts3 (fuel := 8) (laidMet_of_run' 8 (by kernel_rfl) (by kernel_rfl)) (by kernel_rfl) (by kernel_rfl)
set_option maxRecDepth 100000 in
theorem cOpL : Tryd.prog.cellsOf 37 = 9 := by kernel_rfl
theorem list9 {α : Type} {l : List α} (h : l.length = 9) : ∃ a b c d e f g i j, l = [a, b, c, d, e, f, g, i, j] := by
  match l, h with
  | [a, b, c, d, e, f, g, i, j], _ => exact ⟨a, b, c, d, e, f, g, i, j, rfl⟩
section
variable {H : Type} {enc : TypeId × Value → H} {W : World} {base : Nat} {keep : Nat → Bool} {b : Bool}
set_option maxRecDepth 100000 in
theorem opL {m : Nat} {cs : List Value} {d : DataW H × List MemPlace} (hl : cs.length = 9) (ht : DataW.trod enc Tryd.prog W base keep b m 37 cs = some d) :
    ∃ o : OP, cs = encO o ∧ (-2147483648 ≤ o.c.r ∧ o.c.r ≤ 2147483647) := by
  obtain ⟨v0, v1, v2, v3, v4, v5, v6, v7, v8, rfl⟩ := list9 hl
  obtain ⟨xs, m', rfl, hd, hcl, hl5, hg⟩ := DataW.trod_struct Tryd.underlying37 ht
  have g0 : DataW.trod enc Tryd.prog W base keep b m' 3 (([v0, v1, v2, v3, v4, v5, v6, v7, v8].drop 0).take (Tryd.prog.cellsOf 3)) = xs[0]? := hg 0 _ rfl
  have g1 : DataW.trod enc Tryd.prog W base keep b m' 3 (([v0, v1, v2, v3, v4, v5, v6, v7, v8].drop 1).take (Tryd.prog.cellsOf 3)) = xs[1]? := hg 1 _ rfl
  have g2 : DataW.trod enc Tryd.prog W base keep b m' 3 (([v0, v1, v2, v3, v4, v5, v6, v7, v8].drop 2).take (Tryd.prog.cellsOf 3)) = xs[2]? := hg 2 _ rfl
  have g3 : DataW.trod enc Tryd.prog W base keep b m' 21 (([v0, v1, v2, v3, v4, v5, v6, v7, v8].drop 3).take (Tryd.prog.cellsOf 21)) = xs[3]? := hg 3 _ rfl
  have g4 : DataW.trod enc Tryd.prog W base keep b m' 35 (([v0, v1, v2, v3, v4, v5, v6, v7, v8].drop 4).take (Tryd.prog.cellsOf 35)) = xs[4]? := hg 4 _ rfl
  have hx5 : xs.length = 5 := hl5
  rw [cIntL, List.getElem?_eq_getElem (by omega)] at g0 g1 g2
  rw [cI32L, List.getElem?_eq_getElem (by omega)] at g3
  rw [cAttrL, List.getElem?_eq_getElem (by omega)] at g4
  simp only [List.drop_zero, List.drop_succ_cons, List.take_succ_cons, List.take_zero] at g0 g1 g2 g3 g4
  obtain ⟨z0, b0, _, _⟩ := DataW.trod_int Tryd.underlying3 g0
  obtain ⟨z1, b1, _, _⟩ := DataW.trod_int Tryd.underlying3 g1
  obtain ⟨z2, b2, _, _⟩ := DataW.trod_int Tryd.underlying3 g2
  obtain ⟨z3, b3, _, w3⟩ := DataW.trod_int Tryd.underlying21 g3
  obtain ⟨z4, z5, z6, z7, z8, rfl, rfl, rfl, rfl, rfl, _⟩ := attrL g4
  simp at b0 b1 b2 b3
  subst b0; subst b1; subst b2; subst b3
  exact ⟨⟨z0, z1, z2, ⟨z3, ⟨#[]⟩, 0, z4, z5, z6, z7, z8⟩⟩, rfl, bounds_i32 w3⟩
theorem O9.of {w : World} {b o : Nat} {x : OP} (h : ∀ j u, (encO x)[j]? = some u → w.cell? ⟨b, o + j, none⟩ = some u) : O9 w b o x :=
  ⟨h 0 _ rfl, h 1 _ rfl, h 2 _ rfl, h 3 _ rfl, h 4 _ rfl, h 5 _ rfl, h 6 _ rfl, h 7 _ rfl, h 8 _ rfl⟩
set_option maxRecDepth 100000 in
/-- A slice of things that are done, that came in. -/
theorem open_ops {A : Option Addr} {n c : Nat} {d : DataW H} {p : List MemPlace} (h : DataW.Trod enc Tryd.prog W base keep b 29 (.slice A n c) d p) :
    ∃ l : List OP, n = l.length ∧ RO W A l := by
  obtain ⟨fuel, hf⟩ := h
  rcases open_rows Tryd.underlying29 cOpL (by omega) hf with ⟨rfl, rfl, rfl, _⟩ | ⟨bk, off, sp, rfl, hnc, _, V, D, S, fu, hx, hel⟩
  · exact ⟨[], rfl, fun h => absurd rfl h⟩
  · obtain ⟨f, hf'⟩ : ∃ f : Nat → OP, ∀ i, i < n → V i = encO (f i) := by
      have key : ∀ i, i < n → ∃ y : OP, V i = encO y := fun i hi => by
        obtain ⟨_, hlen, _, _, p, hp⟩ := hel i hi
        obtain ⟨y, hy, _⟩ := opL hlen hp
        exact ⟨y, hy⟩
      exact ⟨fun i => if hi : i < n then (key i hi).choose else opZ, fun i hi => by
        have hk := (key i hi).choose_spec
        simp only [dif_pos hi]
        exact hk⟩
    refine ⟨(List.range n).map f, by simp, fun hne => ?_⟩
    have hn0 : 0 < n := by
      rcases Nat.eq_zero_or_pos n with h0 | h0
      · subst h0; exact absurd rfl hne
      · exact h0
    obtain ⟨rfl, _, _, hlt, _⟩ := hel 0 hn0
    refine ⟨bk, off, rfl, hlt, fun k hk => ?_⟩
    have hk' : k < n := by simpa using hk
    have e : Ao ((List.range n).map f) k = f k := by
      unfold Ao
      rw [List.getElem?_map, List.getElem?_range hk']
      rfl
    rw [e]
    obtain ⟨_, _, hat, _⟩ := hel k hk'
    exact O9.of fun j u hj => hat j u (by rw [hf' k hk']; exact hj)
end
/-- Marks grow no longer by mending. -/
theorem mend_m : ∀ (l : List CC) (k B : Nat), (∀ i, i < l.length → (Ac l i).m.size ≤ B) → k < l.length → (Ac (mendL l) k).m.size ≤ B
  | [], k, _, _, hk => by simp at hk
  | [x], k, B, h, hk => by
    obtain rfl : k = 0 := by simp at hk; exact hk
    have h0 := h 0 (by simp)
    show (if x.h = 0 ∨ x.h = 3 then x else bare x).m.size ≤ B
    split
    · exact h0
    · exact Nat.zero_le _
  | x :: y :: t, k, B, h, hk => by
    have h0 : x.m.size ≤ B := h 0 (by simp)
    have ht : ∀ i, i < (y :: t).length → (Ac (y :: t) i).m.size ≤ B := fun i hi => by
      have := h (i + 1) (by simp at hi ⊢; omega)
      rwa [Ac_one] at this
    rw [mendL_duo]
    split
    · match k with
      | 0 => exact h0
      | 1 => exact ht 0 (by simp)
      | k + 2 =>
        rw [Ac_one, Ac_one]
        exact mend_m t k B (fun i hi => by have := ht (i + 1) (by simp; omega); rwa [Ac_one] at this) (by simp at hk; omega)
    · match k with
      | 0 =>
        rw [Ac_nil]
        split
        · exact h0
        · exact Nat.zero_le _
      | k + 1 =>
        rw [Ac_one]
        exact mend_m (y :: t) k B ht (by simp at hk ⊢; omega)
end Go.Proofs.YtoiekhjmfoodiaaDoor
