/- What Less, Later and Clamp answer; the document's Less. -/
import Derived.Test.YtnkdbpbfapdfeaaEe
namespace Go.Proofs.Ytnkdbpbfapdfeaa
open Go.RowKit

def lessB (r c s d : Int) : Bool := decide (r < s ∨ r = s ∧ c < d)
def laterZ (r c s d : Int) : Int × Int := if lessB r c s d = true then (s, d) else (r, c)
def clampZ (r c rows cols : Int) : Int × Int := if r < 0 then (0, 0) else if max rows 0 ≤ r then (max rows 0, 0) else (r, max (min c cols) 0)

theorem less_as (r c s d : Int) (b : Bool) (h : lessB r c s d = b) (w : World) : Calls Try.prog 36 #[.agg #[.int .i64 r, .int .i64 c], .agg #[.int .i64 s, .int .i64 d]] w fun e w' => e = .returned (.bool b) ∧ Below w.heap.size w w' := by
  by_cases h1 : r < s
  · obtain rfl : true = b := by rw [← h, lessB, decide_eq_true (.inl h1)]
    clear h
    go_enter Try.func36, Try.ntmps36
    go_wp2
    go_ret
    exact ⟨by simp_all, belA (belA (Below.refl _ _) _) _⟩
  · have hd1 : decide (r < s) = false := decide_eq_false h1
    by_cases h2 : r = s
    · subst h2
      have hb : decide (c < d) = b := by rw [← h, lessB]; simp
      subst hb
      clear h h1
      go_enter Try.func36, Try.ntmps36
      go_wp2
      go_ret
      exact ⟨by simp_all, belA (belA (Below.refl _ _) _) _⟩
    · obtain rfl : false = b := by rw [← h, lessB, decide_eq_false (by omega)]
      have hd2 : (r == s) = false := by simpa using h2
      clear h h1 h2
      go_enter Try.func36, Try.ntmps36
      go_wp2
      go_ret
      exact ⟨by simp_all, belA (belA (Below.refl _ _) _) _⟩
theorem refLess_as (r c s d : Int) (b : Bool) (h : lessB r c s d = b) (w : World) : Calls Try.prog 19 #[.agg #[.int .i64 r, .int .i64 c], .agg #[.int .i64 s, .int .i64 d]] w fun e w' => e = .returned (.bool b) ∧ Below w.heap.size w w' := by
  by_cases h1 : r < s
  · obtain rfl : true = b := by rw [← h, lessB, decide_eq_true (.inl h1)]
    clear h
    go_enter Try.func19, Try.ntmps19
    go_wp2
    go_ret
    exact ⟨by simp_all, belA (belA (Below.refl _ _) _) _⟩
  · have hd1 : decide (r < s) = false := decide_eq_false h1
    by_cases h2 : r = s
    · subst h2
      have hb : decide (c < d) = b := by rw [← h, lessB]; simp
      subst hb
      clear h h1
      go_enter Try.func19, Try.ntmps19
      go_wp2
      go_ret
      exact ⟨by simp_all, belA (belA (Below.refl _ _) _) _⟩
    · obtain rfl : false = b := by rw [← h, lessB, decide_eq_false (by omega)]
      have hd2 : (r == s) = false := by simpa using h2
      clear h h1 h2
      go_enter Try.func19, Try.ntmps19
      go_wp2
      go_ret
      exact ⟨by simp_all, belA (belA (Below.refl _ _) _) _⟩

theorem later_keep {w w1 : World} {p0 p1 s0 s1 q0 q1 : Value} {t1 t2 t3 : TypeId} (hb : Below (((w.alloc (.cells #[p0, p1] t1)).alloc (.cells #[s0, s1] t2)).alloc (.cells #[q0, q1] t3)).heap.size (((w.alloc (.cells #[p0, p1] t1)).alloc (.cells #[s0, s1] t2)).alloc (.cells #[q0, q1] t3)) w1) :
    (w1.cell? ⟨w.heap.size, 0, none⟩ = some p0 ∧ w1.cell? ⟨w.heap.size, 1, none⟩ = some p1) ∧ (w1.cell? ⟨w.heap.size + 1, 0, none⟩ = some s0 ∧ w1.cell? ⟨w.heap.size + 1, 1, none⟩ = some s1) ∧ (w1.cell? ⟨w.heap.size + 2, 0, none⟩ = some q0 ∧ w1.cell? ⟨w.heap.size + 2, 1, none⟩ = some q1) ∧ (∀ k, w1.frozen? ⟨w.heap.size + 2, k, none⟩ = false) ∧ Below w.heap.size w w1 := by
  have g0 := keep hb (old1 (old1 (heap_alloc_new w _)))
  have g1 := keep hb (old1 (heap_alloc_new (w.alloc _) _))
  have g2 := keep hb (heap_alloc_new ((w.alloc _).alloc _) _)
  rw [show (w.alloc (.cells #[p0, p1] t1)).heap.size = w.heap.size + 1 by simp] at g1
  rw [show ((w.alloc (.cells #[p0, p1] t1)).alloc (.cells #[s0, s1] t2)).heap.size = w.heap.size + 2 by simp] at g2
  exact ⟨⟨cell_of_row _ _ 0 _ _ _ g0, cell_of_row _ _ 1 _ _ _ g0⟩, ⟨cell_of_row _ _ 0 _ _ _ g1, cell_of_row _ _ 1 _ _ _ g1⟩, ⟨cell_of_row _ _ 0 _ _ _ g2, cell_of_row _ _ 1 _ _ _ g2⟩, unfrozen_of g2, bel0 (belA (belA (belA (Below.refl _ _) _) _) _) hb⟩

end Go.Proofs.Ytnkdbpbfapdfeaa
