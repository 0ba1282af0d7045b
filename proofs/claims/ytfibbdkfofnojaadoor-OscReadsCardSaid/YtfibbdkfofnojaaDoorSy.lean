/- The law OscReads at what came in. -/
import Derived.Test.YtfibbdkfofnojaaDoorRo
import Derived.Test.YtfibbdkfofnojaaDoorSx
namespace Go.Proofs.YtfibbdkfofnojaaDoor
open Go.RowKit

theorem oscReads_str (s : ByteArray) (hs : s.size ≤ maxLen) (w : World) (hO : OT w) : Calls Tryd.prog 3 #[.string s] w fun e w' => e = .returned (.bool true) ∧ Below w.heap.size w w' := by
  have h := oscReads_law s.data.toList (size_of_wf hs) w hO
  rwa [← bs_of s] at h
end Go.Proofs.YtfibbdkfofnojaaDoor
