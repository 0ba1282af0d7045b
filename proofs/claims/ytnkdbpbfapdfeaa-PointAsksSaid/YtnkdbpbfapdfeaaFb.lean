/- The closure of Sort, in the sort's own words. -/
import Derived.Test.YtnkdbpbfapdfeaaFa
import Derived.StillTailTactics
import Derived.Sort.Grow
namespace Go.Proofs.Ytnkdbpbfapdfeaa
open Go.RowKit Go.Sort

set_option maxRecDepth 100000 in
theorem new2' (w : World) (o o' : Obj) : ((w.alloc o).alloc o').heap[w.heap.size + 1]? = some o' := by
  have h := heap_alloc_new (w.alloc o) o'
  rwa [show (w.alloc o).heap.size = w.heap.size + 1 by simp] at h
def posC (a b : Int × Int) : Int := orI (cmpI a.1 b.1) (cmpI a.2 b.2)
set_option maxRecDepth 100000 in
theorem compare_st (a b : Int) (w : World) : Calls Try.prog 48 #[.int .i64 a, .int .i64 b] w fun e w' => e = .returned (.int .i64 (cmpI a b)) ∧ w' = w :=
  (compare_any a b w).mono fun _ _ ⟨h1, h2⟩ => ⟨h1, h2.symm⟩
set_option maxHeartbeats 2000000 in
set_option maxRecDepth 100000 in
theorem closure_any (r c s d : Int) (w : World) : Calls Try.prog 46 #[.agg #[.int .i64 r, .int .i64 c], .agg #[.int .i64 s, .int .i64 d]] w fun e w' => e = .returned (.int .i64 (posC (r, c) (s, d))) ∧ ∃ q os, w' = grow (w.drewN q) os := by
  show Calls Try.prog 46 _ w fun e w' => e = .returned (.int .i64 (orI (cmpI r s) (cmpI c d))) ∧ ∃ q os, w' = grow (w.drewN q) os
  have H1 := Lib.hid (compare_st r s)
  have H2 := Lib.hid (compare_st c d)
  generalize cmpI r s = x at *
  generalize cmpI c d = y at *
  have y0 := old1 (o := .cells #[.int .i64 s, .int .i64 d] 30) (heap_alloc_new w (.cells #[.int .i64 r, .int .i64 c] 30))
  have y1 := new2' w (.cells #[.int .i64 r, .int .i64 c] 30) (.cells #[.int .i64 s, .int .i64 d] 30)
  go_enter Try.func46, Try.ntmps46
  go_wp2_with fail
  have hW : (w.alloc (.cells #[.int .i64 r, .int .i64 c] 30)).alloc (.cells #[.int .i64 s, .int .i64 d] 30) = grow w #[.cells #[.int .i64 r, .int .i64 c] 30, .cells #[.int .i64 s, .int .i64 d] 30] := by rw [alloc_eq_grow, alloc_eq_grow, grow_grow]; rfl
  have HW := Lib.hid hW
  clear hW
  generalize (w.alloc (.cells #[.int .i64 r, .int .i64 c] 30)).alloc (.cells #[.int .i64 s, .int .i64 d] 30) = w2 at *
  have c0 := cell_of_row _ _ 0 _ _ _ y0
  have c1 := cell_of_row _ _ 1 _ _ _ y0
  have c2 := cell_of_row _ _ 0 _ _ _ y1
  have c3 := cell_of_row _ _ 1 _ _ _ y1
  clear y0 y1
  refine wp_region_still_tail 10 (by kernel_rfl) (by kernel_rfl) ?_
  simp only [List.take_succ_cons, List.take_zero, List.drop_succ_cons, List.drop_zero]
  still_step
  still_step
  still_step
  still_step
  still_call (H1.out _)
  still_step
  still_step
  still_step
  still_step
  still_call (H2.out _)
  refine wpStill_nil ?_
  change wpList _ _ _ _ _ w2.drew
  have HOR := Lib.hid (fun (W : World) (t : TypeId) => or_any W.heap.size x y (W.alloc (.cells #[.int .i64 x, .int .i64 y] t)) (cell_of_row _ _ 0 _ _ _ (heap_alloc_new W _)) (cell_of_row _ _ 1 _ _ _ (heap_alloc_new W _)))
  have HW2 : Hid (∀ o, w2.drew.alloc o = grow (w.drewN 1) (#[.cells #[.int .i64 r, .int .i64 c] 30, .cells #[.int .i64 s, .int .i64 d] 30] ++ #[o])) := Lib.hid fun o => by
    rw [alloc_eq_grow, HW.out, ← grow_grow]
    rfl
  clear HW c0 c1 c2 c3 H1 H2
  generalize w2.drew = w3 at *
  go_wp2_with (go_at_call 47; (with_reducible refine (HOR.out _ _).mono ?_); rintro e w' ⟨rfl, rfl⟩)
  go_ret
  exact ⟨rfl, 1, _, HW2.out _⟩
end Go.Proofs.Ytnkdbpbfapdfeaa
