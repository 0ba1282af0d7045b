/- The law PctMakes at any two texts that came in. -/
import Derived.Test.YthoadaocbkbefaaDoorXm
import Derived.Test.YthoadaocbkbefaaDoorXn
namespace Go.Proofs.YthoadaocbkbefaaDoor
open Go.ChangeShapes Go.WideShapes Go.ChangeAt Go.WideMaps Go.WideElems Go.RowKit

theorem pctMakes_str (s t : ByteArray) (hs : s.data.toList.length ≤ reachBytes) (ht : t.data.toList.length ≤ reachBytes) (w : World) (hM : MT w) : Calls Tryd.prog 6 #[.string s, .string t] w fun e w' => e = .returned (.bool true) ∧ Below w.heap.size w w' := by
  have hr := reachBytes_lt
  have h := pctMakes_law s.data.toList t.data.toList (by omega) (by omega) w hM
  rwa [← bs_of s, ← bs_of t] at h
end Go.Proofs.YthoadaocbkbefaaDoor
