/- The document's Reflow. -/
import Derived.Test.YtfjgfmeanehpmaaLp
namespace Go.Proofs.Ytfjgfmeanehpmaa
open Go.RowKit

set_option maxRecDepth 100000 in
set_option maxHeartbeats 8000000 in
theorem refReflow_out (A Al : Option Addr) (n c nl cl : Nat) (z : Int) (hz : ¬ (2 ≤ z ∧ z ≤ 1000)) (w : World) :
    Calls Try.prog 26 #[.slice A n c, .int .i64 z, .slice Al nl cl] w fun e w' => e = .returned (.tuple #[.slice A n c, .slice Al nl cl]) ∧ w = w' := by
  have hF := fun W => Lib.hid (fits_any z W)
  rw [decide_eq_false hz] at hF
  clear hz
  go_enter Try.func26, Try.ntmps26
  go_wp2_with (go_at_call 18; (with_reducible refine ((hF _).out).mono ?_); rintro e w4 ⟨rfl, rfl⟩)
  refine bodyPost_ret (v := .tuple #[.slice A n c, .slice Al nl cl]) (by simp [results, Try.results26, go_sem]) rfl ?_
  exact ⟨rfl, rfl⟩
end Go.Proofs.Ytfjgfmeanehpmaa
