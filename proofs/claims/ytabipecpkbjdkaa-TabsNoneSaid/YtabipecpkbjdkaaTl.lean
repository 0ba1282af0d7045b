/- What the frames of tabs' laws need: the program's own facts; what came in, opened. -/
import Derived.Test.YtabipecpkbjdkaaKi
import Derived.ProofKit
import Derived.OpenShut
namespace Go.Proofs.Ytabipecpkbjdkaa
open Go.ChangeShapes Go.WideShapes Go.ChangeAt Go.WideMaps Go.WideElems Go.RowKit

theorem own : ownKnob Try.prog.godebug = none := by kernel_rfl
theorem laidOut : laidOutB Try.prog = true := by kernel_rfl

end Go.Proofs.Ytabipecpkbjdkaa
