/- The law OscEscapes at what came in. -/
import Derived.Test.YtkkhlmilcdlfoaaDoorRo
import Derived.Test.YtkkhlmilcdlfoaaDoorSc
namespace Go.Proofs.YtkkhlmilcdlfoaaDoor
open Go.RowKit

theorem oscEscapes_str (s : ByteArray) (hs : s.size ≤ maxLen) (w : World) (hO : OT w) : Calls Tryd.prog 6 #[.string s] w fun e w' => e = .returned (.bool true) ∧ Below w.heap.size w w' := by
  have h := oscEscapes_law s.data.toList (size_of_wf hs) w hO
  rwa [← bs_of s] at h
end Go.Proofs.YtkkhlmilcdlfoaaDoor
