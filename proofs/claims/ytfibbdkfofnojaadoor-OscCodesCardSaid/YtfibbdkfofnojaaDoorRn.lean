/- The law OscCodes. Written by mkrn.py. -/
import Derived.Test.YtfibbdkfofnojaaDoorRm
import Derived.Test.YtfibbdkfofnojaaDoorRo
namespace Go.Proofs.YtfibbdkfofnojaaDoor
open Go.RowKit

set_option maxRecDepth 100000 in
set_option maxHeartbeats 4000000 in
theorem oscCodes_law (l : List UInt8) (hL : l.length ≤ 9223372036854775807) (w : World) (hO : OT w) : Calls Tryd.prog 7 #[.string (bsB l)] w fun e w' => e = .returned (.bool true) ∧ Below w.heap.size w w' := by
  have HA := Lib.hid fun (W : World) (hW : Below w.heap.size w W) => awake_any W (hO.past hW)
  have HBc : Hid (Below w.heap.size w w) := Lib.hid (Below.refl _ _)
  by_cases h3 : 100 < l.length
  · have hs : (100 : Int) < (bsB l).size := by rw [bsB_size]; omega
    clear h3
    generalize bsB l = t at *
    go_enter Tryd.func7, Tryd.ntmps7
    go_wp2_with (first
      | (go_at_call 9; (with_reducible refine (HA.out _ HBc.out).mono ?_); rintro e wx ⟨rfl, hb⟩; have HBc := Lib.hid (bel0 HBc.out hb); clear hb))
    go_ret
    exact ⟨rfl, HBc.out⟩
  have hs : ((bsB l).size : Int) ≤ 100 := by rw [bsB_size]; omega
  have HC : Hid (∀ W, Below w.heap.size w W → Calls Tryd.prog 18 #[.string (bsB l)] W fun e w' => e = .returned (.tuple #[.int .i64 (codeP l).1, .bool (codeP l).2]) ∧ Below W.heap.size W w') := Lib.hid fun W hW => by
    have h := code_any l (by omega) W
    rwa [codeV_eq] at h
  have HR : Hid (∀ W, Below w.heap.size w W → Calls Tryd.prog 19 #[.string (bsB l)] W fun e w' => e = .returned (.tuple #[.int .i64 (codeP l).1, .bool (codeP l).2]) ∧ Below W.heap.size W w') := Lib.hid fun W hW => by
    have h := refCode_any l (by omega) W
    rwa [codeV_eq] at h
  clear h3
  generalize (codeP l).1 = z at *
  generalize (codeP l).2 = b at *
  generalize bsB l = s at *
  go_enter Tryd.func7, Tryd.ntmps7
  go_wp2_with (first
    | (go_at_call 18; (with_reducible refine (HC.out _ HBc.out).mono ?_); rintro e wx ⟨rfl, hb⟩; have HBc := Lib.hid (bel0 HBc.out hb); clear hb)
    | (go_at_call 19; (with_reducible refine (HR.out _ HBc.out).mono ?_); rintro e wx ⟨rfl, hb⟩; have HBc := Lib.hid (bel0 HBc.out hb); clear hb)
    | (go_at_call 9; (with_reducible refine (HA.out _ HBc.out).mono ?_); rintro e wx ⟨rfl, hb⟩; have HBc := Lib.hid (bel0 HBc.out hb); clear hb))
  go_ret
  exact ⟨rfl, HBc.out⟩
theorem oscCodes_str (s : ByteArray) (hs : s.size ≤ maxLen) (w : World) (hO : OT w) : Calls Tryd.prog 7 #[.string s] w fun e w' => e = .returned (.bool true) ∧ Below w.heap.size w w' := by
  have h := oscCodes_law s.data.toList (size_of_wf hs) w hO
  rwa [← bs_of s] at h
end Go.Proofs.YtfibbdkfofnojaaDoor
