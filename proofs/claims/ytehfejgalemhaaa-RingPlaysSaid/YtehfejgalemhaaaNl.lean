/- What the frames of ring's laws need: the program's own facts. -/
import Derived.Test.YtehfejgalemhaaaKa
import Derived.ProofKit
import Derived.OpenShut
namespace Go.Proofs.Ytehfejgalemhaaa
open Go.ChangeShapes Go.WideShapes Go.ChangeAt Go.WideMaps Go.WideElems Go.RowKit

theorem own : ownKnob Try.prog.godebug = none := by kernel_rfl
theorem laidOut : laidOutB Try.prog = true := by kernel_rfl
end Go.Proofs.Ytehfejgalemhaaa
