/- Colors, attributes and cells that came in, opened; a slice of cells. -/
import Derived.Test.YtfjgfmeanehpmaaLa
import Derived.Test.YtfjgfmeanehpmaaGc
namespace Go.Proofs.Ytfjgfmeanehpmaa
open Go.ChangeShapes Go.WideShapes Go.ChangeAt Go.WideMaps Go.WideElems Go.RowKit

set_option maxRecDepth 100000 in
theorem cIntL : Try.prog.cellsOf 3 = 1 := by kernel_rfl
set_option maxRecDepth 100000 in
theorem cI32L : Try.prog.cellsOf 21 = 1 := by kernel_rfl
set_option maxRecDepth 100000 in
theorem cStrL : Try.prog.cellsOf 9 = 1 := by kernel_rfl
set_option maxRecDepth 100000 in
theorem cColL : Try.prog.cellsOf 50 = 2 := by kernel_rfl
set_option maxRecDepth 100000 in
theorem cAttrL : Try.prog.cellsOf 52 = 5 := by kernel_rfl
set_option maxRecDepth 100000 in
theorem cCellL : Try.prog.cellsOf 54 = 8 := by kernel_rfl
section
variable {H : Type} {enc : TypeId × Value → H} {W : World} {base : Nat} {keep : Nat → Bool} {b : Bool}
set_option maxRecDepth 100000 in
theorem colorL {m : Nat} {v0 v1 : Value} {d : DataW H × List MemPlace} (ht : DataW.trod enc Try.prog W base keep b m 50 [v0, v1] = some d) : ∃ z0 z1 : Int, v0 = .int .i64 z0 ∧ v1 = .int .i64 z1 ∧ (-9223372036854775808 ≤ z0 ∧ z0 ≤ 9223372036854775807) ∧ (-9223372036854775808 ≤ z1 ∧ z1 ≤ 9223372036854775807) := by
  obtain ⟨xs, m', rfl, _, hcl, hl2, hg⟩ := DataW.trod_struct Try.underlying50 ht
  have g0 : DataW.trod enc Try.prog W base keep b m' 3 (([v0, v1].drop 0).take (Try.prog.cellsOf 3)) = xs[0]? := hg 0 _ rfl
  have g1 : DataW.trod enc Try.prog W base keep b m' 3 (([v0, v1].drop 1).take (Try.prog.cellsOf 3)) = xs[1]? := hg 1 _ rfl
  have hx2 : xs.length = 2 := hl2
  rw [cIntL, List.getElem?_eq_getElem (by omega)] at g0 g1
  obtain ⟨z0, b0, _, w0⟩ := DataW.trod_int Try.underlying3 g0
  obtain ⟨z1, b1, _, w1⟩ := DataW.trod_int Try.underlying3 g1
  simp at b0 b1
  exact ⟨z0, z1, b0, b1, bounds_i64 w0, bounds_i64 w1⟩
set_option maxRecDepth 100000 in
theorem attrL {m : Nat} {v0 v1 v2 v3 v4 : Value} {d : DataW H × List MemPlace} (ht : DataW.trod enc Try.prog W base keep b m 52 [v0, v1, v2, v3, v4] = some d) :
    ∃ z0 z1 z2 z3 z4 : Int, v0 = .int .i64 z0 ∧ v1 = .int .i64 z1 ∧ v2 = .int .i64 z2 ∧ v3 = .int .i64 z3 ∧ v4 = .int .i64 z4 ∧ (-9223372036854775808 ≤ z4 ∧ z4 ≤ 9223372036854775807) := by
  obtain ⟨xs, m', rfl, _, hcl, hl, hg⟩ := DataW.trod_struct Try.underlying52 ht
  have g0 : DataW.trod enc Try.prog W base keep b m' 50 (([v0, v1, v2, v3, v4].drop 0).take (Try.prog.cellsOf 50)) = xs[0]? := hg 0 _ rfl
  have g1 : DataW.trod enc Try.prog W base keep b m' 50 (([v0, v1, v2, v3, v4].drop 2).take (Try.prog.cellsOf 50)) = xs[1]? := hg 1 _ rfl
  have g2 : DataW.trod enc Try.prog W base keep b m' 3 (([v0, v1, v2, v3, v4].drop 4).take (Try.prog.cellsOf 3)) = xs[2]? := hg 2 _ rfl
  have hx3 : xs.length = 3 := hl
  rw [cColL, List.getElem?_eq_getElem (by omega)] at g0 g1
  rw [cIntL, List.getElem?_eq_getElem (by omega)] at g2
  simp only [List.drop_zero, List.drop_succ_cons, List.take_succ_cons, List.take_zero] at g0 g1 g2
  obtain ⟨z0, z1, e0, e1, _⟩ := colorL g0
  obtain ⟨z2, z3, e2, e3, _⟩ := colorL g1
  obtain ⟨z4, b4, _, w4⟩ := DataW.trod_int Try.underlying3 g2
  simp at b4
  exact ⟨z0, z1, z2, z3, z4, e0, e1, e2, e3, b4, bounds_i64 w4⟩
theorem list8 {α : Type} {l : List α} (h : l.length = 8) : ∃ a b c d e f g i, l = [a, b, c, d, e, f, g, i] := by
  match l, h with
  | [a, b, c, d, e, f, g, i], _ => exact ⟨a, b, c, d, e, f, g, i, rfl⟩
set_option maxRecDepth 100000 in
/-- A cell that came in, its marks no longer than the form lets be. -/
theorem cellL {m : Nat} {cs : List Value} {d : DataW H × List MemPlace} (hl : cs.length = 8) (ht : DataW.trod enc Try.prog W base keep b m 54 cs = some d) :
    ∃ y : CC, cs = encC y ∧ y.m.size ∈ d.1.weights Try.prog 54 ∧ (-2147483648 ≤ y.r ∧ y.r ≤ 2147483647) := by
  obtain ⟨v0, v1, v2, v3, v4, v5, v6, v7, rfl⟩ := list8 hl
  obtain ⟨xs, m', rfl, hd, hcl, hl4, hg⟩ := DataW.trod_struct Try.underlying54 ht
  have g0 : DataW.trod enc Try.prog W base keep b m' 21 (([v0, v1, v2, v3, v4, v5, v6, v7].drop 0).take (Try.prog.cellsOf 21)) = xs[0]? := hg 0 _ rfl
  have g1 : DataW.trod enc Try.prog W base keep b m' 9 (([v0, v1, v2, v3, v4, v5, v6, v7].drop 1).take (Try.prog.cellsOf 9)) = xs[1]? := hg 1 _ rfl
  have g2 : DataW.trod enc Try.prog W base keep b m' 3 (([v0, v1, v2, v3, v4, v5, v6, v7].drop 2).take (Try.prog.cellsOf 3)) = xs[2]? := hg 2 _ rfl
  have g3 : DataW.trod enc Try.prog W base keep b m' 52 (([v0, v1, v2, v3, v4, v5, v6, v7].drop 3).take (Try.prog.cellsOf 52)) = xs[3]? := hg 3 _ rfl
  have hx4 : xs.length = 4 := hl4
  rw [cI32L, List.getElem?_eq_getElem (by omega)] at g0
  rw [cStrL, List.getElem?_eq_getElem (by omega)] at g1
  rw [cIntL, List.getElem?_eq_getElem (by omega)] at g2
  rw [cAttrL, List.getElem?_eq_getElem (by omega)] at g3
  simp only [List.drop_zero, List.drop_succ_cons, List.take_succ_cons, List.take_zero] at g0 g1 g2 g3
  obtain ⟨z0, b0, _, w0⟩ := DataW.trod_int Try.underlying21 g0
  obtain ⟨s, b1, hxs, _⟩ := DataW.trod_string Try.underlying9 g1
  obtain ⟨z2, b2, _, _⟩ := DataW.trod_int Try.underlying3 g2
  obtain ⟨z3, z4, z5, z6, z7, rfl, rfl, rfl, rfl, rfl, _⟩ := attrL g3
  simp at b0 b1 b2
  subst b0; subst b1; subst b2
  refine ⟨⟨z0, s, z2, z3, z4, z5, z6, z7⟩, rfl, ?_, bounds_i32 w0⟩
  rw [hd]
  show s.size ∈ DataW.weights Try.prog 54 (.agg (xs.map (·.1)))
  rw [DataW.weights]
  rw [Try.underlying54]
  refine DataW.weights_mem_each (j := 1) (t := 9) (d := .lit (.string s.data.toList)) rfl ?_ _ ?_
  · rw [List.getElem?_map, List.getElem?_eq_getElem (by omega), hxs]
    rfl
  · rw [DataW.weights]
    exact List.mem_singleton.2 rfl
set_option maxRecDepth 100000 in
/-- A slice of cells that came in. -/
theorem open_cells {A : Option Addr} {n c : Nat} {d : DataW H} {p : List MemPlace} (h : DataW.Trod enc Try.prog W base keep b 29 (.slice A n c) d p) (hw : ∀ k ∈ d.weights Try.prog 29, k ≤ reachBytes) :
    ∃ l : List CC, n = l.length ∧ n ≤ c ∧ (A = none → c = 0) ∧ (∀ k, k < l.length → (Ac l k).m.size ≤ 140737488355328) ∧ (∀ k, k < l.length → -2147483648 ≤ (Ac l k).r ∧ (Ac l k).r ≤ 2147483647) ∧ n ≤ 140737488355328 ∧ RC W W.heap.size A l := by
  obtain ⟨fuel, hf⟩ := h
  rcases open_rows Try.underlying29 cCellL (by omega) hf with ⟨rfl, rfl, rfl, _⟩ | ⟨bk, off, sp, rfl, hnc, _, V, D, S, fu, hx, hel⟩
  · exact ⟨[], rfl, Nat.le_refl _, fun _ => rfl, fun k hk => by simp at hk, fun k hk => by simp at hk, by omega, fun h => absurd rfl h⟩
  · have hx : d = .slice ((List.range n).map D) S := hx
    obtain ⟨f, hf'⟩ : ∃ f : Nat → CC, ∀ i, i < n → V i = encC (f i) ∧ (f i).m.size ∈ (D i).weights Try.prog 54 ∧ (-2147483648 ≤ (f i).r ∧ (f i).r ≤ 2147483647) := by
      have key : ∀ i, i < n → ∃ y : CC, V i = encC y ∧ y.m.size ∈ (D i).weights Try.prog 54 ∧ (-2147483648 ≤ y.r ∧ y.r ≤ 2147483647) := fun i hi => by
        obtain ⟨_, hlen, _, _, p, hp⟩ := hel i hi
        exact cellL hlen hp
      exact ⟨fun i => if hi : i < n then (key i hi).choose else CC.zero, fun i hi => by
        have hk := (key i hi).choose_spec
        simp only [dif_pos hi]
        exact hk⟩
    have hr47 : reachBytes < 140737488355328 := reachBytes_lt
    have hAc : ∀ k, k < n → Ac ((List.range n).map f) k = f k := fun k hk => by
      unfold Ac
      rw [List.getElem?_map, List.getElem?_range hk]
      rfl
    have hwt : ∀ k ∈ DataW.weights Try.prog 29 (.slice ((List.range n).map D) S), k ≤ reachBytes := hx ▸ hw
    rw [DataW.weights, Try.underlying29] at hwt
    refine ⟨(List.range n).map f, by simp, hnc, (fun h => by cases h), fun k hk => ?_, fun k hk => ?_, ?_, fun hne => ?_⟩
    · have hk' : k < n := by simpa using hk
      rw [hAc k hk']
      have h1 := hwt (f k).m.size (List.mem_cons_of_mem _ (List.mem_append_left _ (weightsAll_mem (List.mem_map.2 ⟨k, List.mem_range.2 hk', rfl⟩) _ (hf' k hk').2.1)))
      omega
    · have hk' : k < n := by simpa using hk
      rw [hAc k hk']
      exact (hf' k hk').2.2
    · have h1 := hwt _ (List.mem_cons_self ..)
      have h72 : Try.prog.bytesOf 54 = 72 := by kernel_rfl
      rw [List.length_map, List.length_range, h72] at h1
      omega
    · have hn0 : 0 < n := by
        rcases Nat.eq_zero_or_pos n with h0 | h0
        · subst h0; exact absurd rfl hne
        · exact h0
      obtain ⟨rfl, _, _, hlt, _⟩ := hel 0 hn0
      refine ⟨bk, off, rfl, hlt, fun k hk => ?_⟩
      have hk' : k < n := by simpa using hk
      rw [hAc k hk']
      obtain ⟨_, _, hat, _⟩ := hel k hk'
      exact C8.of fun j u hj => hat j u (by rw [(hf' k hk').1]; exact hj)
end
end Go.Proofs.Ytfjgfmeanehpmaa
