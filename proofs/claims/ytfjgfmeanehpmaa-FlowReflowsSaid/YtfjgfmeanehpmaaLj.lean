/- Where places move; the walk of flow.moved. -/
import Derived.Test.YtfjgfmeanehpmaaLe
import Derived.Test.YtfjgfmeanehpmaaLh
import Derived.Test.YtfjgfmeanehpmaaLb
namespace Go.Proofs.Ytfjgfmeanehpmaa
open Go.RowKit

set_option maxRecDepth 100000 in
set_option maxHeartbeats 2000000 in
theorem moved1_any (a1 a2 : Nat) (b off mm c1 i s : Nat) (row : Int) (hin : i < mm) (w : World) (h1 : w.cell? ⟨a1, 0, none⟩ = some (.slice (some ⟨b, off, none⟩) mm c1)) (h2 : w.cell? ⟨a2, 0, none⟩ = some (.int .i64 row)) (h3 : w.cell? ⟨b, off + i * 2, none⟩ = some (.int .i64 (s : Int))) :
    Calls Try.prog 53 #[.int .i64 i, .pointer (some ⟨a1, 0, none⟩), .pointer (some ⟨a2, 0, none⟩)] w fun e w' => e = .returned (.bool (decide (row < (s : Int)))) ∧ Below w.heap.size w w' := by
  have hi0 : (0 : Int) ≤ (i : Int) := by omega
  have hi1 : (i : Int) < (mm : Int) := by omega
  by_cases hzx : row < (s : Int)
  all_goals
    have hd : decide (row < (s : Int)) = decide (row < (s : Int)) := rfl
    first
      | rw [decide_eq_true hzx]
      | rw [decide_eq_false hzx]
    first
      | (have hdi : decide (row < (s : Int)) = true := decide_eq_true hzx)
      | (have hdi : decide (row < (s : Int)) = false := decide_eq_false hzx)
    clear hd
    go_enter Try.func53, Try.ntmps53
    go_wp2
    go_quiet (fail)
    go_wp2
    go_ret
    exact ⟨rfl, belN' _ _⟩
theorem moveP_at (m : Nat) : ∀ (gs : List (List Rw)) (j : Nat) (g : List Rw) (r : Nat) (c : Int), gs[j]? = some g → (joinL (gs.take j)).length ≤ r → r < (joinL (gs.take j)).length + g.length →
    moveP m gs r c = ((joinL ((gs.map (newL m)).take j)).length + (placeR (newL m g) (offR g (r - (joinL (gs.take j)).length) c)).1, (placeR (newL m g) (offR g (r - (joinL (gs.take j)).length) c)).2)
  | [], j, g, r, c, h, _, _ => by simp at h
  | x :: gs, 0, g, r, c, h, _, h2 => by
    obtain rfl : x = g := by simpa using h
    have h2 : r < 0 + x.length := h2
    unfold moveP
    rw [if_pos (by omega)]
    simp [joinL]
  | x :: gs, j + 1, g, r, c, h, h1, h2 => by
    have e : joinL ((x :: gs).take (j + 1)) = x ++ joinL (gs.take j) := rfl
    rw [e, List.length_append] at h1 h2 ⊢
    have ih := moveP_at m gs j g (r - x.length) c (by simpa using h) (by omega) (by omega)
    unfold moveP
    rw [if_neg (by omega), ih]
    have e2 : joinL (((x :: gs).map (newL m)).take (j + 1)) = newL m x ++ joinL ((gs.map (newL m)).take j) := rfl
    rw [e2, List.length_append, show r - x.length - (joinL (gs.take j)).length = r - (x.length + (joinL (gs.take j)).length) by omega]
    congr 1
    simp only
    omega
theorem moveP_over (m : Nat) : ∀ (gs : List (List Rw)) (r : Nat) (c : Int), (joinL gs).length ≤ r → moveP m gs r c = ((joinS m gs).length, 0)
  | [], r, c, _ => rfl
  | x :: gs, r, c, h => by
    have e : joinL (x :: gs) = x ++ joinL gs := rfl
    rw [e, List.length_append] at h
    unfold moveP
    rw [if_neg (by omega), moveP_over m gs (r - x.length) c (by omega)]
    have e2 : joinS m (x :: gs) = newL m x ++ joinS m gs := rfl
    rw [e2, List.length_append]
    simp only
    congr 1
    omega
/-- The line in which a row is. -/
theorem line_of : ∀ (gs : List (List Rw)) (r : Nat), r < (joinL gs).length → ∃ j g, gs[j]? = some g ∧ (joinL (gs.take j)).length ≤ r ∧ r < (joinL (gs.take j)).length + g.length
  | [], r, h => by simp [joinL] at h
  | x :: gs, r, h => by
    by_cases hr : r < x.length
    · exact ⟨0, x, rfl, Nat.zero_le _, by show r < 0 + x.length; omega⟩
    · have e : joinL (x :: gs) = x ++ joinL gs := rfl
      rw [e, List.length_append] at h
      obtain ⟨j, g, h1, h2, h3⟩ := line_of gs (r - x.length) (by omega)
      refine ⟨j + 1, g, h1, ?_, ?_⟩
      · show (x ++ joinL (gs.take j)).length ≤ r
        rw [List.length_append]; omega
      · show r < (x ++ joinL (gs.take j)).length + g.length
        rw [List.length_append]; omega
theorem take_join_le (gs : List (List Rw)) : ∀ (i j : Nat), i ≤ j → (joinL (gs.take i)).length ≤ (joinL (gs.take j)).length := fun i j h => by
  have e : gs.take i = (gs.take j).take i := by rw [List.take_take, Nat.min_eq_left h]
  rw [e]
  conv => rhs; rw [← List.take_append_drop i (gs.take j), joinL_app]
  simp
end Go.Proofs.Ytfjgfmeanehpmaa
