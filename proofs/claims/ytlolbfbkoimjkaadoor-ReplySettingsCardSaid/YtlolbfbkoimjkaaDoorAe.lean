/- The walks of Has and With, for any flag; of flagNumber. -/
import Derived.Test.YtlolbfbkoimjkaaDoorAd
namespace Go.Proofs.YtlolbfbkoimjkaaDoor
open Go.RowKit

set_option maxHeartbeats 1000000 in
set_option maxRecDepth 100000 in
theorem hasF_any (n f : Int) (h0 : 0 ≤ n) (h63 : n < 1024) (hf : 0 < f) (w : World) : Calls Tryd.prog 40 #[.int .i64 n, .int .i64 f] w fun e w' => e = .returned (.bool (hasB n f)) ∧ Below w.heap.size w w' := by
  rw [show hasB n f = (n / f % 2 == 1) from if_neg (by omega)]
  have hd : decide (n < 0) = false := decide_eq_false (by omega)
  have hz : (f == 0) = false := by simp; omega
  have hz' : f ≠ 0 := by omega
  have hq0 : 0 ≤ n / f := Int.ediv_nonneg h0 (by omega)
  have hq1 : n / f ≤ n := Int.ediv_le_self _ h0
  have e8 : n.tdiv f = n / f := Int.tdiv_eq_ediv_of_nonneg h0
  generalize n / f = q at *
  have m8 : q.tmod 2 = q % 2 := Int.tmod_eq_emod_of_nonneg hq0
  have w8 : wrap64 q = q := IntWalk.wrap64_in q (by omega)
  have w9 : IntKind.i64.wrap q = q := IntWalk.i64_in q (by omega)
  clear hq0 hq1
  go_enter Tryd.func40, Tryd.ntmps40
  go_wp2
  go_ret
  exact ⟨by simp_all, Below.refl _ _⟩
/-- With a flag, or without. -/
def withZ (n f : Int) (on : Bool) : Int := if hasB n f = on then n else if on = true then n + f else n - f
end Go.Proofs.YtlolbfbkoimjkaaDoor
