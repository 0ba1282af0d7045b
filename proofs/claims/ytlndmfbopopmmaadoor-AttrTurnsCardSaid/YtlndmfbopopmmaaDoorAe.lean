/- The walks of Has and With, for any flag; of flagNumber. -/
import Derived.Test.YtlndmfbopopmmaaDoorAd
namespace Go.Proofs.YtlndmfbopopmmaaDoor
open Go.RowKit

set_option maxHeartbeats 1000000 in
theorem hasF_any (n f : Int) (h0 : 0 ≤ n) (h63 : n < 1024) (hf : 0 < f) (w : World) : Calls Tryd.prog 21 #[.int .i64 n, .int .i64 f] w fun e w' => e = .returned (.bool (hasB n f)) ∧ Below w.heap.size w w' := by
  rw [show hasB n f = (n / f % 2 == 1) from if_neg (by omega)]
  have hd : decide (n < 0) = false := decide_eq_false (by omega)
  have hz : (f == 0) = false := by simp; omega
  have hz' : f ≠ 0 := by omega
  have hq0 : 0 ≤ n / f := Int.ediv_nonneg h0 (by omega)
  have hq1 : n / f ≤ n := Int.ediv_le_self _ h0
  have e8 : n.tdiv f = n / f := Int.tdiv_eq_ediv_of_nonneg h0
  generalize n / f = q at *
  have m8 : q.tmod 2 = q % 2 := Int.tmod_eq_emod_of_nonneg hq0
  have w8 : wrap64 q = q := IntWalk.wrap64_in q (by omega)
  have w9 : IntKind.i64.wrap q = q := IntWalk.i64_in q (by omega)
  clear hq0 hq1
  go_enter Tryd.func21, Tryd.ntmps21
  go_wp2
  go_ret
  exact ⟨by simp_all, Below.refl _ _⟩
/-- With a flag, or without. -/
def withZ (n f : Int) (on : Bool) : Int := if hasB n f = on then n else if on = true then n + f else n - f
set_option maxHeartbeats 1000000 in
theorem with_any (n f : Int) (on : Bool) (h0 : 0 ≤ n) (h63 : n < 1024) (hf : 0 < f) (hf2 : f < 1024) (w : World) : Calls Tryd.prog 29 #[.int .i64 n, .int .i64 f, .bool on] w fun e w' => e = .returned (.int .i64 (withZ n f on)) ∧ Below w.heap.size w w' := by
  have hh := hasF_any n f h0 h63 hf
  have w1 : IntKind.i64.wrap (n + f) = n + f := IntWalk.i64_in _ (by omega)
  have w2 : IntKind.i64.wrap (n - f) = n - f := IntWalk.i64_in _ (by omega)
  have w3 : wrap64 (n + f) = n + f := IntWalk.wrap64_in _ (by omega)
  have w4 : wrap64 (n - f) = n - f := IntWalk.wrap64_in _ (by omega)
  unfold withZ
  generalize hasB n f = b at *
  clear h0 h63 hf hf2
  rcases Bool.eq_false_or_eq_true b with rfl | rfl <;> rcases Bool.eq_false_or_eq_true on with rfl | rfl
  all_goals
    go_enter Tryd.func29, Tryd.ntmps29
    go_wp2_with (go_at_call 21; refine (hh _).mono ?_; clear hh; rintro e w5 ⟨rfl, hb5⟩)
    go_ret
    exact ⟨by simp_all, hb5⟩

end Go.Proofs.YtlndmfbopopmmaaDoor
