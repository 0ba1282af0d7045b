/- Places sorted: slices.Clone and Sort. -/
import Derived.Test.YtnkdbpbfapdfeaaFb
import Derived.Test.YtnkdbpbfapdfeaaFs
import Derived.Laws.AppendOwn
import Derived.Deep.RegionLaw
import Derived.Shelf.SlSortCmp.NoneTotal
namespace Go.Proofs.Ytnkdbpbfapdfeaa
open Go.RowKit Go.Sort

def encP (x : Int × Int) : List Value := [.int .i64 x.1, .int .i64 x.2]
def cellsP : List (Int × Int) → List Value
  | [] => []
  | x :: l => .int .i64 x.1 :: .int .i64 x.2 :: cellsP l
set_option maxRecDepth 100000 in
theorem cellsP_len : ∀ l, (cellsP l).length = l.length * 2
  | [] => rfl
  | x :: l => by simp [cellsP, cellsP_len l]; omega
set_option maxRecDepth 100000 in
theorem cellsP_at : ∀ (l : List (Int × Int)) (i : Nat), i < l.length → (cellsP l)[i * 2]? = some (.int .i64 (l[i]?.getD (0, 0)).1) ∧ (cellsP l)[i * 2 + 1]? = some (.int .i64 (l[i]?.getD (0, 0)).2)
  | [], i, h => by simp at h
  | x :: l, 0, _ => ⟨rfl, rfl⟩
  | x :: l, i + 1, h => by
    have := cellsP_at l i (by simpa using h)
    rw [show (i + 1) * 2 = i * 2 + 1 + 1 by omega]
    simpa [cellsP] using this
set_option maxRecDepth 100000 in
theorem cellsP_one : ∀ (l : List (Int × Int)), ∀ u ∈ cellsP l, u.oneCell' = true
  | [], u, h => by simp [cellsP] at h
  | x :: l, u, h => by
    simp only [cellsP, List.mem_cons] at h
    rcases h with rfl | rfl | h
    · rfl
    · rfl
    · exact cellsP_one l u h
/-- A slice of places reads as a list. -/
def RPl (w : World) (B : Nat) (A : Option Addr) (l : List (Int × Int)) : Prop :=
  l ≠ [] → ∃ b off, A = some ⟨b, off, none⟩ ∧ b < B ∧ ∀ k, k < l.length → w.cell? ⟨b, off + k * 2, none⟩ = some (.int .i64 (l[k]?.getD (0, 0)).1) ∧ w.cell? ⟨b, off + k * 2 + 1, none⟩ = some (.int .i64 (l[k]?.getD (0, 0)).2)
set_option maxRecDepth 100000 in
theorem RPl.past {w w' : World} {A : Option Addr} {l : List (Int × Int)} (h : RPl w w.heap.size A l) (hb : Below w.heap.size w w') : RPl w' w'.heap.size A l := fun hne => by
  obtain ⟨b, off, e, hl, hc⟩ := h hne
  exact ⟨b, off, e, Nat.lt_of_lt_of_le hl hb.size, fun k hk => ⟨(hb.cell (p := ⟨b, off + k * 2, none⟩) hl).trans (hc k hk).1, (hb.cell (p := ⟨b, off + k * 2 + 1, none⟩) hl).trans (hc k hk).2⟩⟩
set_option maxRecDepth 100000 in
theorem RPl.news {w : World} {b off : Nat} {l : List (Int × Int)} (h : ∀ k, k < l.length → w.cell? ⟨b, off + k * 2, none⟩ = some (.int .i64 (l[k]?.getD (0, 0)).1) ∧ w.cell? ⟨b, off + k * 2 + 1, none⟩ = some (.int .i64 (l[k]?.getD (0, 0)).2)) :
    ∀ j u, (cellsP l)[j]? = some u → w.cell? ((⟨b, off, none⟩ : Addr).add j) = some u := fun j u hj => by
  have hjl : j < l.length * 2 := by rw [← cellsP_len]; exact (List.getElem?_eq_some_iff.1 hj).1
  rw [Addr.add_mid]
  rcases (by omega : j = j / 2 * 2 ∨ j = j / 2 * 2 + 1) with e | e
  · have h1 := cellsP_at l (j / 2) (by omega)
    have h2 := h (j / 2) (by omega)
    rw [e] at hj ⊢
    generalize j / 2 = i at *
    rw [h1.1] at hj
    cases hj
    exact h2.1
  · have h1 := cellsP_at l (j / 2) (by omega)
    have h2 := h (j / 2) (by omega)
    rw [e] at hj ⊢
    generalize j / 2 = i at *
    rw [h1.2] at hj
    cases hj
    exact h2.2
set_option maxRecDepth 100000 in
theorem flat_at (d : Array (Int × Int)) (i : Nat) (hi : i < d.size) : (flatK encP 2 d)[i * 2]! = .int .i64 d[i]!.1 ∧ (flatK encP 2 d)[i * 2 + 1]! = .int .i64 d[i]!.2 := by
  rw [get_flatK _ _ _ _ (by omega), get_flatK _ _ _ _ (by omega), show i * 2 / 2 = i by omega, show i * 2 % 2 = 0 by omega, show (i * 2 + 1) / 2 = i by omega, show (i * 2 + 1) % 2 = 1 by omega]
  exact ⟨rfl, rfl⟩
set_option maxRecDepth 100000 in
theorem arr_at (l : List (Int × Int)) (i : Nat) (hi : i < l.length) : l.toArray[i]! = l[i]?.getD (0, 0) := by
  rw [getElem!_pos _ _ (by simpa using hi), List.getElem?_eq_getElem hi]
  rfl
set_option maxRecDepth 100000 in
/-- A row of one's own is held, as the sort asks it. -/
theorem holds_of_own {w : World} {B g c : Nat} {l : List (Int × Int)} (h : w.ownsRow B 30 2 (.slice (some ⟨g, 0, none⟩) l.length c) l.length (cellsP l)) (hne : l ≠ []) : HoldsK encP 2 w g 0 l.toArray ∧ B ≤ g ∧ g < w.heap.size := by
  rcases h.2 with ⟨_, h0⟩ | ⟨g', cap, cur, e, hb, hh, _, _, _, ht⟩
  · exact absurd (List.eq_nil_of_length_eq_zero h0) hne
  · injection e with e1 _ _
    injection e1 with e1
    injection e1 with e1 _ _
    subst e1
    have hc : ∀ j u, (cellsP l)[j]? = some u → w.cell? ⟨g, j, none⟩ = some u := fun j u hj => by
      rw [cell_of_row w g j cur _ _ hh]
      rw [← ht, List.getElem?_take] at hj
      split at hj
      · simpa using hj
      · cases hj
    refine ⟨fun j hj => ?_, hb, (Array.getElem?_eq_some_iff.1 hh).1⟩
    rw [size_flatK] at hj
    simp only [List.size_toArray] at hj
    rw [Nat.zero_add]
    refine ⟨?_, unfrozen_of hh _⟩
    rcases (by omega : j = j / 2 * 2 ∨ j = j / 2 * 2 + 1) with e | e
    · rw [e, (flat_at l.toArray (j / 2) (by simp; omega)).1, arr_at l _ (by omega)]
      exact hc _ _ (cellsP_at l _ (by omega)).1
    · rw [e, (flat_at l.toArray (j / 2) (by simp; omega)).2, arr_at l _ (by omega)]
      exact hc _ _ (cellsP_at l _ (by omega)).2
set_option maxRecDepth 100000 in
theorem rows_of_holds {w : World} {g : Nat} {d : Array (Int × Int)} (h : HoldsK encP 2 w g 0 d) (hg : g < w.heap.size) : RPl w w.heap.size (some ⟨g, 0, none⟩) d.toList := fun _ =>
  ⟨g, 0, rfl, hg, fun k hk => by
    have hk' : k < d.size := by simpa using hk
    have h1 := (h (k * 2) (by rw [size_flatK]; omega)).1
    have h2 := (h (k * 2 + 1) (by rw [size_flatK]; omega)).1
    rw [(flat_at d k hk').1] at h1
    rw [(flat_at d k hk').2] at h2
    have e := arr_at d.toList k hk
    simp only [Array.toArray_toList] at e
    rw [← e]
    exact ⟨h1, h2⟩⟩
set_option maxRecDepth 100000 in
theorem infoPos : (Try.prog.info? 30).map (fun i => (i.zero, i.size, i.bytes)) = some (some (.agg #[.int .i64 0, .int .i64 0]), 2, 16) := by kernel_rfl
end Go.Proofs.Ytnkdbpbfapdfeaa
