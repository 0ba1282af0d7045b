/- The walk of the document's Map. -/
import Derived.Test.YtjdpkjdnamfloaaDoorCc
namespace Go.Proofs.YtjdpkjdnamfloaaDoor
open Go.RowKit

theorem meant_other {u o : Int} (h2 : ¬ o = 2) (h3 : ¬ o = 3) : meantZ u o = if 0 ≤ u ∧ u < 4 then u else 0 := by unfold meantZ; rw [if_neg (by omega)]
set_option maxHeartbeats 2000000 in
theorem refMap_o2 (a b c d u r : Int) (w : World) :
    Calls Tryd.prog 9 #[.agg #[.int .i64 a, .int .i64 b, .int .i64 c, .int .i64 d, .int .i64 u, .int .i64 2], .int .i32 r] w fun e w' => e = .returned (.tuple #[.int .i32 (printZ c r), .agg #[.int .i64 a, .int .i64 b, .int .i64 c, .int .i64 d, .int .i64 u, .int .i64 0]]) ∧ Below w.heap.size w w' := by
  have HP : Hid (∀ (k : Int) (W : World), Calls Tryd.prog 20 #[.int .i64 k, .int .i32 r] W fun e w' => e = .returned (.int .i32 (printZ k r)) ∧ Below W.heap.size W w') := Lib.hid fun k W => prints_any k r W
  go_enter Tryd.func9, Tryd.ntmps9
  go_wp2
  go_region_with (go_at_call 20; (with_reducible refine (HP.out _ _).mono ?_); rintro e w1 ⟨rfl, hb1⟩; obtain ⟨hc, hf⟩ := bcell hb1; have hz := sz2 (belD hb1); have HB := Lib.hid (bel2 (Below.refl _ w) (belD hb1)))
  all_goals
    go_wp2
    refine bodyPost_ret (v := .tuple #[.int .i32 (printZ c r), .agg #[.int .i64 a, .int .i64 b, .int .i64 c, .int .i64 d, .int .i64 u, .int .i64 0]]) (by simp [results, Tryd.results9, go_sem, hc]) rfl ⟨rfl, ?_⟩
    exact below_row6 HB.out (Nat.le_succ _) _ _ _ _ _ _
set_option maxHeartbeats 2000000 in
theorem refMap_o3 (a b c d u r : Int) (w : World) :
    Calls Tryd.prog 9 #[.agg #[.int .i64 a, .int .i64 b, .int .i64 c, .int .i64 d, .int .i64 u, .int .i64 3], .int .i32 r] w fun e w' => e = .returned (.tuple #[.int .i32 (printZ d r), .agg #[.int .i64 a, .int .i64 b, .int .i64 c, .int .i64 d, .int .i64 u, .int .i64 0]]) ∧ Below w.heap.size w w' := by
  have HP : Hid (∀ (k : Int) (W : World), Calls Tryd.prog 20 #[.int .i64 k, .int .i32 r] W fun e w' => e = .returned (.int .i32 (printZ k r)) ∧ Below W.heap.size W w') := Lib.hid fun k W => prints_any k r W
  go_enter Tryd.func9, Tryd.ntmps9
  go_wp2
  go_region_with (go_at_call 20; (with_reducible refine (HP.out _ _).mono ?_); rintro e w1 ⟨rfl, hb1⟩; obtain ⟨hc, hf⟩ := bcell hb1; have hz := sz2 (belD hb1); have HB := Lib.hid (bel2 (Below.refl _ w) (belD hb1)))
  all_goals
    go_wp2
    refine bodyPost_ret (v := .tuple #[.int .i32 (printZ d r), .agg #[.int .i64 a, .int .i64 b, .int .i64 c, .int .i64 d, .int .i64 u, .int .i64 0]]) (by simp [results, Tryd.results9, go_sem, hc]) rfl ⟨rfl, ?_⟩
    exact below_row6 HB.out (Nat.le_succ _) _ _ _ _ _ _
set_option maxHeartbeats 2000000 in
theorem refMap_u0 (a b c d o r : Int) (w : World) (b2 : (o == 2) = false) (b3 : (o == 3) = false) :
    Calls Tryd.prog 9 #[.agg #[.int .i64 a, .int .i64 b, .int .i64 c, .int .i64 d, .int .i64 0, .int .i64 o], .int .i32 r] w fun e w' => e = .returned (.tuple #[.int .i32 (printZ a r), .agg #[.int .i64 a, .int .i64 b, .int .i64 c, .int .i64 d, .int .i64 0, .int .i64 0]]) ∧ Below w.heap.size w w' := by
  have HP : Hid (∀ (k : Int) (W : World), Calls Tryd.prog 20 #[.int .i64 k, .int .i32 r] W fun e w' => e = .returned (.int .i32 (printZ k r)) ∧ Below W.heap.size W w') := Lib.hid fun k W => prints_any k r W
  go_enter Tryd.func9, Tryd.ntmps9
  go_wp2
  go_region_with (go_at_call 20; (with_reducible refine (HP.out _ _).mono ?_); rintro e w1 ⟨rfl, hb1⟩; obtain ⟨hc, hf⟩ := bcell hb1; have hz := sz2 (belD hb1); have HB := Lib.hid (bel2 (Below.refl _ w) (belD hb1)))
  all_goals
    go_wp2
    refine bodyPost_ret (v := .tuple #[.int .i32 (printZ a r), .agg #[.int .i64 a, .int .i64 b, .int .i64 c, .int .i64 d, .int .i64 0, .int .i64 0]]) (by simp [results, Tryd.results9, go_sem, hc]) rfl ⟨rfl, ?_⟩
    exact below_row6 HB.out (Nat.le_succ _) _ _ _ _ _ _
set_option maxHeartbeats 2000000 in
theorem refMap_u1 (a b c d o r : Int) (w : World) (b2 : (o == 2) = false) (b3 : (o == 3) = false) :
    Calls Tryd.prog 9 #[.agg #[.int .i64 a, .int .i64 b, .int .i64 c, .int .i64 d, .int .i64 1, .int .i64 o], .int .i32 r] w fun e w' => e = .returned (.tuple #[.int .i32 (printZ b r), .agg #[.int .i64 a, .int .i64 b, .int .i64 c, .int .i64 d, .int .i64 1, .int .i64 0]]) ∧ Below w.heap.size w w' := by
  have HP : Hid (∀ (k : Int) (W : World), Calls Tryd.prog 20 #[.int .i64 k, .int .i32 r] W fun e w' => e = .returned (.int .i32 (printZ k r)) ∧ Below W.heap.size W w') := Lib.hid fun k W => prints_any k r W
  go_enter Tryd.func9, Tryd.ntmps9
  go_wp2
  go_region_with (go_at_call 20; (with_reducible refine (HP.out _ _).mono ?_); rintro e w1 ⟨rfl, hb1⟩; obtain ⟨hc, hf⟩ := bcell hb1; have hz := sz2 (belD hb1); have HB := Lib.hid (bel2 (Below.refl _ w) (belD hb1)))
  all_goals
    go_wp2
    refine bodyPost_ret (v := .tuple #[.int .i32 (printZ b r), .agg #[.int .i64 a, .int .i64 b, .int .i64 c, .int .i64 d, .int .i64 1, .int .i64 0]]) (by simp [results, Tryd.results9, go_sem, hc]) rfl ⟨rfl, ?_⟩
    exact below_row6 HB.out (Nat.le_succ _) _ _ _ _ _ _
set_option maxHeartbeats 2000000 in
theorem refMap_u2 (a b c d o r : Int) (w : World) (b2 : (o == 2) = false) (b3 : (o == 3) = false) :
    Calls Tryd.prog 9 #[.agg #[.int .i64 a, .int .i64 b, .int .i64 c, .int .i64 d, .int .i64 2, .int .i64 o], .int .i32 r] w fun e w' => e = .returned (.tuple #[.int .i32 (printZ c r), .agg #[.int .i64 a, .int .i64 b, .int .i64 c, .int .i64 d, .int .i64 2, .int .i64 0]]) ∧ Below w.heap.size w w' := by
  have HP : Hid (∀ (k : Int) (W : World), Calls Tryd.prog 20 #[.int .i64 k, .int .i32 r] W fun e w' => e = .returned (.int .i32 (printZ k r)) ∧ Below W.heap.size W w') := Lib.hid fun k W => prints_any k r W
  go_enter Tryd.func9, Tryd.ntmps9
  go_wp2
  go_region_with (go_at_call 20; (with_reducible refine (HP.out _ _).mono ?_); rintro e w1 ⟨rfl, hb1⟩; obtain ⟨hc, hf⟩ := bcell hb1; have hz := sz2 (belD hb1); have HB := Lib.hid (bel2 (Below.refl _ w) (belD hb1)))
  all_goals
    go_wp2
    refine bodyPost_ret (v := .tuple #[.int .i32 (printZ c r), .agg #[.int .i64 a, .int .i64 b, .int .i64 c, .int .i64 d, .int .i64 2, .int .i64 0]]) (by simp [results, Tryd.results9, go_sem, hc]) rfl ⟨rfl, ?_⟩
    exact below_row6 HB.out (Nat.le_succ _) _ _ _ _ _ _
set_option maxHeartbeats 2000000 in
theorem refMap_u3 (a b c d o r : Int) (w : World) (b2 : (o == 2) = false) (b3 : (o == 3) = false) :
    Calls Tryd.prog 9 #[.agg #[.int .i64 a, .int .i64 b, .int .i64 c, .int .i64 d, .int .i64 3, .int .i64 o], .int .i32 r] w fun e w' => e = .returned (.tuple #[.int .i32 (printZ d r), .agg #[.int .i64 a, .int .i64 b, .int .i64 c, .int .i64 d, .int .i64 3, .int .i64 0]]) ∧ Below w.heap.size w w' := by
  have HP : Hid (∀ (k : Int) (W : World), Calls Tryd.prog 20 #[.int .i64 k, .int .i32 r] W fun e w' => e = .returned (.int .i32 (printZ k r)) ∧ Below W.heap.size W w') := Lib.hid fun k W => prints_any k r W
  go_enter Tryd.func9, Tryd.ntmps9
  go_wp2
  go_region_with (go_at_call 20; (with_reducible refine (HP.out _ _).mono ?_); rintro e w1 ⟨rfl, hb1⟩; obtain ⟨hc, hf⟩ := bcell hb1; have hz := sz2 (belD hb1); have HB := Lib.hid (bel2 (Below.refl _ w) (belD hb1)))
  all_goals
    go_wp2
    refine bodyPost_ret (v := .tuple #[.int .i32 (printZ d r), .agg #[.int .i64 a, .int .i64 b, .int .i64 c, .int .i64 d, .int .i64 3, .int .i64 0]]) (by simp [results, Tryd.results9, go_sem, hc]) rfl ⟨rfl, ?_⟩
    exact below_row6 HB.out (Nat.le_succ _) _ _ _ _ _ _
set_option maxHeartbeats 2000000 in
theorem refMap_lo (a b c d u o r : Int) (w : World) (b2 : (o == 2) = false) (b3 : (o == 3) = false) (h4 : u < 0) :
    Calls Tryd.prog 9 #[.agg #[.int .i64 a, .int .i64 b, .int .i64 c, .int .i64 d, .int .i64 u, .int .i64 o], .int .i32 r] w fun e w' => e = .returned (.tuple #[.int .i32 (printZ a r), .agg #[.int .i64 a, .int .i64 b, .int .i64 c, .int .i64 d, .int .i64 u, .int .i64 0]]) ∧ Below w.heap.size w w' := by
  have HP : Hid (∀ (k : Int) (W : World), Calls Tryd.prog 20 #[.int .i64 k, .int .i32 r] W fun e w' => e = .returned (.int .i32 (printZ k r)) ∧ Below W.heap.size W w') := Lib.hid fun k W => prints_any k r W
  go_enter Tryd.func9, Tryd.ntmps9
  go_wp2
  go_region_with (go_at_call 20; (with_reducible refine (HP.out _ _).mono ?_); rintro e w1 ⟨rfl, hb1⟩; obtain ⟨hc, hf⟩ := bcell hb1; have hz := sz2 (belD hb1); have HB := Lib.hid (bel2 (Below.refl _ w) (belD hb1)))
  all_goals
    go_wp2
    refine bodyPost_ret (v := .tuple #[.int .i32 (printZ a r), .agg #[.int .i64 a, .int .i64 b, .int .i64 c, .int .i64 d, .int .i64 u, .int .i64 0]]) (by simp [results, Tryd.results9, go_sem, hc]) rfl ⟨rfl, ?_⟩
    exact below_row6 HB.out (Nat.le_succ _) _ _ _ _ _ _
set_option maxHeartbeats 2000000 in
theorem refMap_hi (a b c d u o r : Int) (w : World) (b2 : (o == 2) = false) (b3 : (o == 3) = false) (h4 : 0 ≤ u) (h5 : 3 < u) :
    Calls Tryd.prog 9 #[.agg #[.int .i64 a, .int .i64 b, .int .i64 c, .int .i64 d, .int .i64 u, .int .i64 o], .int .i32 r] w fun e w' => e = .returned (.tuple #[.int .i32 (printZ a r), .agg #[.int .i64 a, .int .i64 b, .int .i64 c, .int .i64 d, .int .i64 u, .int .i64 0]]) ∧ Below w.heap.size w w' := by
  have HP : Hid (∀ (k : Int) (W : World), Calls Tryd.prog 20 #[.int .i64 k, .int .i32 r] W fun e w' => e = .returned (.int .i32 (printZ k r)) ∧ Below W.heap.size W w') := Lib.hid fun k W => prints_any k r W
  go_enter Tryd.func9, Tryd.ntmps9
  go_wp2
  go_region_with (go_at_call 20; (with_reducible refine (HP.out _ _).mono ?_); rintro e w1 ⟨rfl, hb1⟩; obtain ⟨hc, hf⟩ := bcell hb1; have hz := sz2 (belD hb1); have HB := Lib.hid (bel2 (Below.refl _ w) (belD hb1)))
  all_goals
    go_wp2
    refine bodyPost_ret (v := .tuple #[.int .i32 (printZ a r), .agg #[.int .i64 a, .int .i64 b, .int .i64 c, .int .i64 d, .int .i64 u, .int .i64 0]]) (by simp [results, Tryd.results9, go_sem, hc]) rfl ⟨rfl, ?_⟩
    exact below_row6 HB.out (Nat.le_succ _) _ _ _ _ _ _

theorem refMap_any (a b c d u o r : Int) (w : World) :
    Calls Tryd.prog 9 #[.agg #[.int .i64 a, .int .i64 b, .int .i64 c, .int .i64 d, .int .i64 u, .int .i64 o], .int .i32 r] w fun e w' => e = .returned (.tuple #[.int .i32 (printZ (setZ a b c d (meantZ u o)) r), .agg #[.int .i64 a, .int .i64 b, .int .i64 c, .int .i64 d, .int .i64 u, .int .i64 0]]) ∧ Below w.heap.size w w' := by
  by_cases h2 : o = 2
  · subst h2; exact refMap_o2 a b c d u r w
  by_cases h3 : o = 3
  · subst h3; exact refMap_o3 a b c d u r w
  have b2 : (o == 2) = false := by simpa using h2
  have b3 : (o == 3) = false := by simpa using h3
  rw [meant_other h2 h3]
  rcases (by omega : u < 0 ∨ u = 0 ∨ u = 1 ∨ u = 2 ∨ u = 3 ∨ 3 < u) with h | rfl | rfl | rfl | rfl | h
  · rw [if_neg (by omega)]; exact refMap_lo a b c d u o r w b2 b3 h
  · exact refMap_u0 a b c d o r w b2 b3
  · exact refMap_u1 a b c d o r w b2 b3
  · exact refMap_u2 a b c d o r w b2 b3
  · exact refMap_u3 a b c d o r w b2 b3
  · rw [if_neg (by omega)]; exact refMap_hi a b c d u o r w b2 b3 (by omega) h

end Go.Proofs.YtjdpkjdnamfloaaDoor
