/- The walks of the Decoder's Left and End. -/
import Derived.Test.YtmmkcfjncpcabaaDoorUf
namespace Go.Proofs.YtmmkcfjncpcabaaDoor
open Go.RowKit

set_option maxHeartbeats 400000 in
theorem left_any (D l : Nat) (w : World) (h : w.cell? ⟨D, 13, none⟩ = some (.int .i64 l)) :
    Calls Tryd.prog 23 #[.pointer (some ⟨D, 9, none⟩)] w fun e w' => e = .returned (.int .i64 l) ∧ w = w' := by
  go_enter Tryd.func23, Tryd.ntmps23
  go_wp2
  go_ret
  exact ⟨rfl, rfl⟩

set_option maxHeartbeats 400000 in
theorem end_0 (D : Nat) (w : World) (h : w.cell? ⟨D, 13, none⟩ = some (.int .i64 0)) :
    Calls Tryd.prog 32 #[.pointer (some ⟨D, 9, none⟩)] w fun e w' => e = .returned (.slice none 0 0) ∧ w = w' := by
  have hl := left_any D 0 w h
  go_enter Tryd.func32, Tryd.ntmps32
  go_wp2_with (go_at_call 23; refine hl.mono ?_; clear hl; rintro e w1 ⟨rfl, rfl⟩)
  go_ret
  exact ⟨rfl, rfl⟩

set_option maxHeartbeats 400000 in
theorem end_pos (D l : Nat) (hl0 : 0 < l) (w : World) (h : w.cell? ⟨D, 13, none⟩ = some (.int .i64 l)) (hfz : w.frozen? ⟨D, 13, none⟩ = false) :
    Calls Tryd.prog 32 #[.pointer (some ⟨D, 9, none⟩)] w fun e w' => e = .returned (.slice (some ⟨w.heap.size, 0, none⟩) 1 1) ∧ w' = (w.setCell ⟨D, 13, none⟩ (.int .i64 0)).alloc (.cells #[.int .i32 65533] 21) := by
  have hl := left_any D l w h
  have hn : ((l : Int) == 0) = false := by simp; omega
  go_enter Tryd.func32, Tryd.ntmps32
  go_wp2_with (go_at_call 23; refine hl.mono ?_; clear hl; rintro e w1 ⟨rfl, rfl⟩)
  go_ret
  exact ⟨rfl, rfl⟩

end Go.Proofs.YtmmkcfjncpcabaaDoor
