/- What the frames of find's laws need: the program's own facts; the laws over texts as they come in. -/
import Derived.Test.YtmkgjfinmojjnaaR6
import Derived.ProofKit
import Derived.OpenShut
namespace Go.Proofs.Ytmkgjfinmojjnaa
open Go.ChangeShapes Go.WideShapes Go.ChangeAt Go.WideMaps Go.WideElems Go.RowKit

theorem own : ownKnob Try.prog.godebug = none := by kernel_rfl
theorem laidOut : laidOutB Try.prog = true := by kernel_rfl
theorem findAll_str (s t : ByteArray) (w : World) : Calls Try.prog 3 #[.string s, .string t] w fun e w' => e = .returned (.bool true) ∧ Below w.heap.size w w' := by
  rw [bs_of s, bs_of t]
  exact findAll_law _ _ w
theorem findNext_str (s t : ByteArray) (f : Int) (w : World) : Calls Try.prog 4 #[.string s, .string t, .int .i64 f] w fun e w' => e = .returned (.bool true) ∧ Below w.heap.size w w' := by
  rw [bs_of s, bs_of t]
  exact findNext_law _ _ f w
theorem findApart_str (s t : ByteArray) (w : World) : Calls Try.prog 5 #[.string s, .string t] w fun e w' => e = .returned (.bool true) ∧ Below w.heap.size w w' := by
  rw [bs_of s, bs_of t]
  exact findApart_law _ _ w
theorem findLonger_str (s t u : ByteArray) (w : World) : Calls Try.prog 6 #[.string s, .string t, .string u] w fun e w' => e = .returned (.bool true) ∧ Below w.heap.size w w' := by
  rw [bs_of s, bs_of t, bs_of u]
  exact findLonger_law _ _ _ w
theorem findSelf_str (s t u : ByteArray) (w : World) : Calls Try.prog 7 #[.string s, .string t, .string u] w fun e w' => e = .returned (.bool true) ∧ Below w.heap.size w w' := by
  rw [bs_of s, bs_of t, bs_of u]
  exact findSelf_law _ _ _ w

end Go.Proofs.Ytmkgjfinmojjnaa
