/- What Less, Later and Clamp answer; the document's Less. -/
import Derived.Test.YtbloekdhafoniaaEe
namespace Go.Proofs.Ytbloekdhafoniaa
open Go.RowKit

def lessB (r c s d : Int) : Bool := decide (r < s ∨ r = s ∧ c < d)
def laterZ (r c s d : Int) : Int × Int := if lessB r c s d = true then (s, d) else (r, c)
def clampZ (r c rows cols : Int) : Int × Int := if r < 0 then (0, 0) else if max rows 0 ≤ r then (max rows 0, 0) else (r, max (min c cols) 0)

theorem less_as (r c s d : Int) (b : Bool) (h : lessB r c s d = b) (w : World) : Calls Try.prog 20 #[.agg #[.int .i64 r, .int .i64 c], .agg #[.int .i64 s, .int .i64 d]] w fun e w' => e = .returned (.bool b) ∧ Below w.heap.size w w' := by
  by_cases h1 : r < s
  · obtain rfl : true = b := by rw [← h, lessB, decide_eq_true (.inl h1)]
    clear h
    go_enter Try.func20, Try.ntmps20
    go_wp2
    go_ret
    exact ⟨by simp_all, belA (belA (Below.refl _ _) _) _⟩
  · have hd1 : decide (r < s) = false := decide_eq_false h1
    by_cases h2 : r = s
    · subst h2
      have hb : decide (c < d) = b := by rw [← h, lessB]; simp
      subst hb
      clear h h1
      go_enter Try.func20, Try.ntmps20
      go_wp2
      go_ret
      exact ⟨by simp_all, belA (belA (Below.refl _ _) _) _⟩
    · obtain rfl : false = b := by rw [← h, lessB, decide_eq_false (by omega)]
      have hd2 : (r == s) = false := by simpa using h2
      clear h h1 h2
      go_enter Try.func20, Try.ntmps20
      go_wp2
      go_ret
      exact ⟨by simp_all, belA (belA (Below.refl _ _) _) _⟩
theorem refLess_as (r c s d : Int) (b : Bool) (h : lessB r c s d = b) (w : World) : Calls Try.prog 19 #[.agg #[.int .i64 r, .int .i64 c], .agg #[.int .i64 s, .int .i64 d]] w fun e w' => e = .returned (.bool b) ∧ Below w.heap.size w w' := by
  by_cases h1 : r < s
  · obtain rfl : true = b := by rw [← h, lessB, decide_eq_true (.inl h1)]
    clear h
    go_enter Try.func19, Try.ntmps19
    go_wp2
    go_ret
    exact ⟨by simp_all, belA (belA (Below.refl _ _) _) _⟩
  · have hd1 : decide (r < s) = false := decide_eq_false h1
    by_cases h2 : r = s
    · subst h2
      have hb : decide (c < d) = b := by rw [← h, lessB]; simp
      subst hb
      clear h h1
      go_enter Try.func19, Try.ntmps19
      go_wp2
      go_ret
      exact ⟨by simp_all, belA (belA (Below.refl _ _) _) _⟩
    · obtain rfl : false = b := by rw [← h, lessB, decide_eq_false (by omega)]
      have hd2 : (r == s) = false := by simpa using h2
      clear h h1 h2
      go_enter Try.func19, Try.ntmps19
      go_wp2
      go_ret
      exact ⟨by simp_all, belA (belA (Below.refl _ _) _) _⟩

theorem later_keep {w w1 : World} {p0 p1 s0 s1 q0 q1 : Value} {t1 t2 t3 : TypeId} (hb : Below (((w.alloc (.cells #[p0, p1] t1)).alloc (.cells #[s0, s1] t2)).alloc (.cells #[q0, q1] t3)).heap.size (((w.alloc (.cells #[p0, p1] t1)).alloc (.cells #[s0, s1] t2)).alloc (.cells #[q0, q1] t3)) w1) :
    (w1.cell? ⟨w.heap.size, 0, none⟩ = some p0 ∧ w1.cell? ⟨w.heap.size, 1, none⟩ = some p1) ∧ (w1.cell? ⟨w.heap.size + 1, 0, none⟩ = some s0 ∧ w1.cell? ⟨w.heap.size + 1, 1, none⟩ = some s1) ∧ (w1.cell? ⟨w.heap.size + 2, 0, none⟩ = some q0 ∧ w1.cell? ⟨w.heap.size + 2, 1, none⟩ = some q1) ∧ (∀ k, w1.frozen? ⟨w.heap.size + 2, k, none⟩ = false) ∧ Below w.heap.size w w1 := by
  have g0 := keep hb (old1 (old1 (heap_alloc_new w _)))
  have g1 := keep hb (old1 (heap_alloc_new (w.alloc _) _))
  have g2 := keep hb (heap_alloc_new ((w.alloc _).alloc _) _)
  rw [show (w.alloc (.cells #[p0, p1] t1)).heap.size = w.heap.size + 1 by simp] at g1
  rw [show ((w.alloc (.cells #[p0, p1] t1)).alloc (.cells #[s0, s1] t2)).heap.size = w.heap.size + 2 by simp] at g2
  exact ⟨⟨cell_of_row _ _ 0 _ _ _ g0, cell_of_row _ _ 1 _ _ _ g0⟩, ⟨cell_of_row _ _ 0 _ _ _ g1, cell_of_row _ _ 1 _ _ _ g1⟩, ⟨cell_of_row _ _ 0 _ _ _ g2, cell_of_row _ _ 1 _ _ _ g2⟩, unfrozen_of g2, bel0 (belA (belA (belA (Below.refl _ _) _) _) _) hb⟩

set_option maxHeartbeats 1000000 in
theorem later_any (r c s d : Int) (w : World) : Calls Try.prog 21 #[.agg #[.int .i64 r, .int .i64 c], .agg #[.int .i64 s, .int .i64 d]] w fun e w' => e = .returned (.agg #[.int .i64 (laterZ r c s d).1, .int .i64 (laterZ r c s d).2]) ∧ Below w.heap.size w w' := by
  cases h : lessB r c s d with
  | true =>
    rw [show laterZ r c s d = (s, d) from if_pos h]
    have HL := Lib.hid (less_as r c s d _ h)
    clear h
    go_enter Try.func21, Try.ntmps21
    go_wp2_with (go_at_call 20; (with_reducible refine (HL.out _).mono ?_); rintro e w1 ⟨rfl, hb⟩; obtain ⟨⟨y0, y1⟩, ⟨z0, z1⟩, ⟨q0, q1⟩, f2, hB⟩ := later_keep hb; have HB1 := Lib.hid hB; clear hb hB)
    refine bodyPost_ret (v := .agg #[.int .i64 s, .int .i64 d]) (by simp [results, Try.results21, go_sem, q0, q1]) rfl ⟨rfl, ?_⟩
    exact belC (belC HB1.out (by omega)) (by omega)
  | false =>
    rw [show laterZ r c s d = (r, c) from if_neg (by rw [h]; simp)]
    have HL := Lib.hid (less_as r c s d _ h)
    clear h
    go_enter Try.func21, Try.ntmps21
    go_wp2_with (go_at_call 20; (with_reducible refine (HL.out _).mono ?_); rintro e w1 ⟨rfl, hb⟩; obtain ⟨⟨y0, y1⟩, ⟨z0, z1⟩, ⟨q0, q1⟩, f2, hB⟩ := later_keep hb; have HB1 := Lib.hid hB; clear hb hB)
    refine bodyPost_ret (v := .agg #[.int .i64 r, .int .i64 c]) (by simp [results, Try.results21, go_sem, q0, q1]) rfl ⟨rfl, ?_⟩
    exact belC (belC HB1.out (by omega)) (by omega)


theorem clamp_1 (r c rows cols : Int) (w : World) (h1 : r < 0) : Calls Try.prog 22 #[.agg #[.int .i64 r, .int .i64 c], .int .i64 rows, .int .i64 cols] w fun e w' => e = .returned (.agg #[.int .i64 0, .int .i64 0]) ∧ Below w.heap.size w w' := by
  go_enter Try.func22, Try.ntmps22
  go_wp2
  all_goals
    refine bodyPost_ret (v := .agg #[.int .i64 0, .int .i64 0]) (by simp [results, Try.results22, go_sem]) rfl ⟨rfl, ?_⟩
    exact belA (belA (Below.refl _ _) _) _
theorem clamp_2 (r c rows cols : Int) (w : World) (h1 : 0 ≤ r) (h2 : rows < 0) : Calls Try.prog 22 #[.agg #[.int .i64 r, .int .i64 c], .int .i64 rows, .int .i64 cols] w fun e w' => e = .returned (.agg #[.int .i64 0, .int .i64 0]) ∧ Below w.heap.size w w' := by
  have hd1 : decide (r < 0) = false := decide_eq_false (by omega)
  have hd2 : decide (0 ≤ r) = true := decide_eq_true h1
  go_enter Try.func22, Try.ntmps22
  go_wp2
  all_goals
    refine bodyPost_ret (v := .agg #[.int .i64 0, .int .i64 0]) (by simp [results, Try.results22, go_sem]) rfl ⟨rfl, ?_⟩
    exact belA (belA (Below.refl _ _) _) _
theorem clamp_3 (r c rows cols : Int) (w : World) (h1 : 0 ≤ r) (h2 : 0 ≤ rows) (h3 : rows ≤ r) : Calls Try.prog 22 #[.agg #[.int .i64 r, .int .i64 c], .int .i64 rows, .int .i64 cols] w fun e w' => e = .returned (.agg #[.int .i64 rows, .int .i64 0]) ∧ Below w.heap.size w w' := by
  have hd1 : decide (r < 0) = false := decide_eq_false (by omega)
  have hd2 : decide (rows ≤ r) = true := decide_eq_true h3
  have hd3 : ¬ rows < 0 := by omega
  go_enter Try.func22, Try.ntmps22
  go_wp2
  all_goals
    refine bodyPost_ret (v := .agg #[.int .i64 rows, .int .i64 0]) (by simp [results, Try.results22, go_sem]) rfl ⟨rfl, ?_⟩
    exact belA (belA (Below.refl _ _) _) _
set_option maxHeartbeats 1000000 in
theorem clamp_4 (r c rows cols : Int) (w : World) (h1 : 0 ≤ r) (h2 : 0 ≤ rows) (h3 : r < rows) (m : Int) (hm : max (min c cols) 0 = m) : Calls Try.prog 22 #[.agg #[.int .i64 r, .int .i64 c], .int .i64 rows, .int .i64 cols] w fun e w' => e = .returned (.agg #[.int .i64 r, .int .i64 m]) ∧ Below w.heap.size w w' := by
  have hd1 : decide (r < 0) = false := decide_eq_false (by omega)
  have hd2 : decide (rows ≤ r) = false := decide_eq_false (by omega)
  have hd3 : ¬ rows < 0 := by omega
  rcases (by omega : (c ≤ cols ∧ 0 ≤ c ∧ c = m) ∨ (c ≤ cols ∧ c < 0 ∧ 0 = m) ∨ (cols < c ∧ 0 ≤ cols ∧ cols = m) ∨ (cols < c ∧ cols < 0 ∧ 0 = m)) with ⟨h4, h5, h6⟩ | ⟨h4, h5, h6⟩ | ⟨h4, h5, h6⟩ | ⟨h4, h5, h6⟩
  all_goals
    clear hm
    subst h6
  · clear h1 h2 h3
    go_enter Try.func22, Try.ntmps22
    go_wp2
    refine bodyPost_ret (v := .agg #[.int .i64 r, .int .i64 c]) (by simp [results, Try.results22, go_sem]) rfl ⟨rfl, ?_⟩
    exact belA (belA (Below.refl _ _) _) _
  · clear h1 h2 h3
    go_enter Try.func22, Try.ntmps22
    go_wp2
    refine bodyPost_ret (v := .agg #[.int .i64 r, .int .i64 0]) (by simp [results, Try.results22, go_sem]) rfl ⟨rfl, ?_⟩
    exact belA (belA (Below.refl _ _) _) _
  · clear h1 h2 h3
    go_enter Try.func22, Try.ntmps22
    go_wp2
    refine bodyPost_ret (v := .agg #[.int .i64 r, .int .i64 cols]) (by simp [results, Try.results22, go_sem]) rfl ⟨rfl, ?_⟩
    exact belA (belA (Below.refl _ _) _) _
  · clear h1 h2 h3
    go_enter Try.func22, Try.ntmps22
    go_wp2
    refine bodyPost_ret (v := .agg #[.int .i64 r, .int .i64 0]) (by simp [results, Try.results22, go_sem]) rfl ⟨rfl, ?_⟩
    exact belA (belA (Below.refl _ _) _) _
theorem clamp_any (r c rows cols : Int) (w : World) : Calls Try.prog 22 #[.agg #[.int .i64 r, .int .i64 c], .int .i64 rows, .int .i64 cols] w fun e w' => e = .returned (.agg #[.int .i64 (clampZ r c rows cols).1, .int .i64 (clampZ r c rows cols).2]) ∧ Below w.heap.size w w' := by
  by_cases h1 : r < 0
  · rw [show clampZ r c rows cols = (0, 0) from if_pos h1]
    exact clamp_1 r c rows cols w h1
  · by_cases h2 : rows < 0
    · rw [show clampZ r c rows cols = (0, 0) by unfold clampZ; rw [if_neg h1, if_pos (by omega), show max rows 0 = 0 by omega]]
      exact clamp_2 r c rows cols w (by omega) h2
    · by_cases h3 : rows ≤ r
      · rw [show clampZ r c rows cols = (rows, 0) by unfold clampZ; rw [if_neg h1, if_pos (by omega), show max rows 0 = rows by omega]]
        exact clamp_3 r c rows cols w (by omega) (by omega) h3
      · rw [show clampZ r c rows cols = (r, max (min c cols) 0) by unfold clampZ; rw [if_neg h1, if_neg (by omega)]]
        exact clamp_4 r c rows cols w (by omega) (by omega) (by omega) _ rfl
end Go.Proofs.Ytbloekdhafoniaa
