/- What a store of points does that is not there; New; Len; which places are right. -/
import Derived.Test.YtnkdbpbfapdfeaaDa
namespace Go.Proofs.Ytnkdbpbfapdfeaa
open Go.RowKit

theorem move_right (r c : Int) (W : World) : (Op.equalIn 10000 30 (.agg #[.int .i64 (moveZ r c 0 0 1).1, .int .i64 (moveZ r c 0 0 1).2]) (.agg #[.int .i64 r, .int .i64 c])).run Try.prog W = .ok (!okP r c) W := by
  rw [eqPos]
  cases h : okP r c with
  | false =>
    rw [show moveZ r c 0 0 1 = (r, c) from if_pos (.inl h)]
    simp
  | true =>
    have hr : 0 ≤ r := by
      have := num_t (Bool.and_eq_true_iff.1 h).1
      omega
    rw [show moveZ r c 0 0 1 = (r + 1, c) by
      unfold moveZ
      rw [if_neg (by
        rw [h, show okS 0 0 1 = true by decide, show begZ 0 0 = 0 from rfl]
        simp
        omega), if_pos rfl]]
    have e : (r + 1 == r) = false := by simp only [beq_eq_false_iff_ne, ne_eq]; omega
    simp [e]
set_option maxHeartbeats 2000000 in
theorem isRight_any (r c : Int) (w : World) : Calls Try.prog 31 #[.agg #[.int .i64 r, .int .i64 c]] w fun e w' => e = .returned (.bool (okP r c)) ∧ Below w.heap.size w w' := by
  have E := fun W => move_right r c W
  have HM := Lib.hid (move_any r c 0 0 1)
  have hg := guardPos
  generalize (moveZ r c 0 0 1).1 = x at *
  generalize (moveZ r c 0 0 1).2 = y at *
  generalize okP r c = b at *
  have HY := Lib.hid (fun w1 (hb : Below (w.alloc (.cells #[.int .i64 r, .int .i64 c] 30)).drew.heap.size (w.alloc (.cells #[.int .i64 r, .int .i64 c] 30)).drew w1) => keep (belD hb) (heap_alloc_new w _))
  cases b
  all_goals
   simp only [Bool.not_false, Bool.not_true] at E
   go_enter Try.func31, Try.ntmps31
   go_wp2
   go_region_with (go_at_call 42; (with_reducible refine (HM.out _).mono ?_); rintro e w1 ⟨rfl, hb⟩; have y0 := HY.out _ hb; have c0 := cell_of_row _ _ 0 _ _ _ y0; have c1 := cell_of_row _ _ 1 _ _ _ y0; have HB1 := Lib.hid (bel0 (belA (Below.refl w.heap.size w) _) (belD hb)); clear hb y0)
   all_goals
    go_wp2
    go_ret
    exact ⟨rfl, HB1.out⟩

/- A store that is not there. -/
set_option maxHeartbeats 2000000 in
theorem add_none (r c : Int) (w : World) : Calls Try.prog 22 #[.pointer none, .agg #[.int .i64 r, .int .i64 c]] w fun e w' => e = .returned (.tuple #[]) ∧ Below w.heap.size w w' := by
  go_enter Try.func22, Try.ntmps22
  go_wp2
  (try simp only [Exit.inBlock, Exit.then])
  exact bodyPost_ret (results_none rfl _ _ _) rfl ⟨rfl, belA (Below.refl _ _) _⟩
set_option maxHeartbeats 2000000 in
theorem shift_none (k a n : Int) (w : World) : Calls Try.prog 25 #[.pointer none, .agg #[.int .i64 k, .int .i64 a, .int .i64 n]] w fun e w' => e = .returned (.tuple #[]) ∧ Below w.heap.size w w' := by
  go_enter Try.func25, Try.ntmps25
  go_wp2
  (try simp only [Exit.inBlock, Exit.then])
  exact bodyPost_ret (results_none rfl _ _ _) rfl ⟨rfl, belA (Below.refl _ _) _⟩
theorem places_none (w : World) : Calls Try.prog 15 #[.pointer none] w fun e w' => e = .returned (.slice none 0 0) ∧ w' = w := by
  go_enter Try.func15, Try.ntmps15
  go_wp2
  go_ret
  exact ⟨rfl, rfl⟩
theorem len_none (w : World) : Calls Try.prog 11 #[.pointer none] w fun e w' => e = .returned (.int .i64 0) ∧ w' = w := by
  go_enter Try.func11, Try.ntmps11
  go_wp2
  go_ret
  exact ⟨rfl, rfl⟩
theorem put_none (v : Value) (w : World) : Calls Try.prog 17 #[.pointer none, v] w fun e w' => e = .returned (.int .i64 1) ∧ w' = w := by
  go_enter Try.func17, Try.ntmps17
  go_wp2
  go_ret
  exact ⟨rfl, rfl⟩
theorem len_any {w : World} {D : Nat} {v : Value} {most : Int} {L : List (Int × Int)} (h : PM w D v most L) : Calls Try.prog 11 #[.pointer (some ⟨D, 0, none⟩)] w fun e w' => e = .returned (.int .i64 L.length) ∧ w' = w := by
  obtain ⟨⟨d0, d1⟩, df⟩ := h.cells
  obtain ⟨A, c, rfl⟩ := h.row.shape
  clear h
  go_enter Try.func11, Try.ntmps11
  go_wp2
  go_ret
  exact ⟨rfl, rfl⟩
theorem new_any (most : Int) (h1 : 1 ≤ most) (h2 : most ≤ 10000) (w : World) :
    Calls Try.prog 24 #[.int .i64 most] w fun e w' => e = .returned (.tuple #[.pointer (some ⟨w.heap.size, 0, none⟩), .int .i64 0]) ∧ Below w.heap.size w w' ∧ PM w' w.heap.size (.slice none 0 0) most [] := by
  have h0 : ¬ most < 1 := by omega
  have h3 : ¬ (10000 : Int) < most := by omega
  go_enter Try.func24, Try.ntmps24
  go_wp2
  go_ret2
  exact ⟨rfl, (Below.refl _ _).alloc (Nat.le_refl _) _, heap_alloc_new w _, OR.nil _⟩
theorem new_bad (most : Int) (h : most < 1 ∨ 10000 < most) (w : World) :
    Calls Try.prog 24 #[.int .i64 most] w fun e w' => e = .returned (.tuple #[.pointer none, .int .i64 1]) ∧ w' = w := by
  by_cases h0 : most < 1
  · go_enter Try.func24, Try.ntmps24
    go_wp2
    go_ret2
    exact ⟨rfl, rfl⟩
  · have h1 : (10000 : Int) < most := by omega
    go_enter Try.func24, Try.ntmps24
    go_wp2
    go_ret2
    exact ⟨rfl, rfl⟩
end Go.Proofs.Ytnkdbpbfapdfeaa
