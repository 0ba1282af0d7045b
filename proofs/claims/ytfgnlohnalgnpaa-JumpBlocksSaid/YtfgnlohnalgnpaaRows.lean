/-
  No cell of these rows narrows 'for every input' (looked for: loops, veiled, ifaces, maps, wideKeys, modest, calm, conditions, laid).
  DERIVED. THE GIVEN ROWS OF THIS SEAT. 6 by the template 'for every input the law returns true; each argument reads behind the call as it read before'; 0 by the template 'total and deterministic' (their statements: YtfgnlohnalgnpaaTotals.lean).
  GIVEN WITH THE SEED: the statements are not yours to turn. If you find one false, say at which input.
  Laid BY PROGRAM, IN A SANDBOX (cutbox-rows.mjs): the forced cells as the released guide's own fill.sh prints them over the translation 32449dac176e7ff5… (all of the seat's roots in one cut). By AI agents, Wed Nov 11 2026. No macro, syntax, notation, axiom, sorry.
-/
import Derived.Test.YtfgnlohnalgnpaaChecked
import GoSem.Claim
import GoSem.ClaimJoined
import GoSem.ClaimMapViews
import Derived.JoinedTies
import Derived.KernelRfl
namespace Go.Proofs.Ytfgnlohnalgnpaa
/- THE CELL 'sum', in the pinned program and in every row, IS THE sha256 OF THE DUMP (.gsa) THAT YtfgnlohnalgnpaaProg.lean LOADS. Nothing in Lean hashes anything: it is a label: what it is worth is what the hold of that sum in a sandbox is worth. -/
noncomputable def Try.pinned : Pinned := { name := "ytfgnlohnalgnpaa", sum := "32449dac176e7ff5e5f35783be503be7ceb4ebe9145afeecbc2a415bca89f8b3", checked := Try.checked }
namespace Rows
def none {H : Type} : Left H := { results := [], args := [] }

/-- 'marqueelaw25.JumpNext': WHATEVER THE INPUT: true; the input reads as it did. -/
def jumpNextSpec : ChangeSpec := { name := "jumpNext", fn := fun _ => fun
  | [d1, d2] => { results := [.lit (.bool true)], args := [d1, d2] }
  | _ => none }
def jumpNextRow : OpenClaim := { program := "ytfgnlohnalgnpaa", sum := "32449dac176e7ff5e5f35783be503be7ceb4ebe9145afeecbc2a415bca89f8b3", func := "marquee/marqueelaw25.JumpNext", spec := "jumpNext", unfollowed := true, recurses := true, apart := false }
def JumpNextSaid : Prop := jumpNextRow.holds Try.pinned (OpenSpec.ofChange jumpNextSpec)

/-- ITS FALSE NEIGHBOUR: 'it returns false'. Refute it at one input. -/
def jumpNextWrong : ChangeSpec := { name := "jumpNext", fn := fun _ => fun
  | [d1, d2] => { results := [.lit (.bool false)], args := [d1, d2] }
  | _ => none }
def JumpNextWrongFalsely : Prop := jumpNextRow.holds Try.pinned (OpenSpec.ofChange jumpNextWrong)

/-- 'marqueelaw25.JumpSteps': WHATEVER THE INPUT: true; the input reads as it did. -/
def jumpStepsSpec : ChangeSpec := { name := "jumpSteps", fn := fun _ => fun
  | [d1, d2, d3] => { results := [.lit (.bool true)], args := [d1, d2, d3] }
  | _ => none }
def jumpStepsRow : OpenClaim := { program := "ytfgnlohnalgnpaa", sum := "32449dac176e7ff5e5f35783be503be7ceb4ebe9145afeecbc2a415bca89f8b3", func := "marquee/marqueelaw25.JumpSteps", spec := "jumpSteps", unfollowed := true, recurses := true, apart := false }
def JumpStepsSaid : Prop := jumpStepsRow.holds Try.pinned (OpenSpec.ofChange jumpStepsSpec)

/-- ITS FALSE NEIGHBOUR: 'it returns false'. Refute it at one input. -/
def jumpStepsWrong : ChangeSpec := { name := "jumpSteps", fn := fun _ => fun
  | [d1, d2, d3] => { results := [.lit (.bool false)], args := [d1, d2, d3] }
  | _ => none }
def JumpStepsWrongFalsely : Prop := jumpStepsRow.holds Try.pinned (OpenSpec.ofChange jumpStepsWrong)

/-- 'marqueelaw25.JumpSorts': WHATEVER THE INPUT: true; the input reads as it did. -/
def jumpSortsSpec : ChangeSpec := { name := "jumpSorts", fn := fun _ => fun
  | [d] => { results := [.lit (.bool true)], args := [d] }
  | _ => none }
def jumpSortsRow : OpenClaim := { program := "ytfgnlohnalgnpaa", sum := "32449dac176e7ff5e5f35783be503be7ceb4ebe9145afeecbc2a415bca89f8b3", func := "marquee/marqueelaw25.JumpSorts", spec := "jumpSorts", unfollowed := true, recurses := true, apart := false }
def JumpSortsSaid : Prop := jumpSortsRow.holds Try.pinned (OpenSpec.ofChange jumpSortsSpec)

/-- ITS FALSE NEIGHBOUR: 'it returns false'. Refute it at one input. -/
def jumpSortsWrong : ChangeSpec := { name := "jumpSorts", fn := fun _ => fun
  | [d] => { results := [.lit (.bool false)], args := [d] }
  | _ => none }
def JumpSortsWrongFalsely : Prop := jumpSortsRow.holds Try.pinned (OpenSpec.ofChange jumpSortsWrong)

/-- 'marqueelaw25.JumpOf': WHATEVER THE INPUT: true; the input reads as it did. -/
def jumpOfSpec : ChangeSpec := { name := "jumpOf", fn := fun _ => fun
  | [d1, d2] => { results := [.lit (.bool true)], args := [d1, d2] }
  | _ => none }
def jumpOfRow : OpenClaim := { program := "ytfgnlohnalgnpaa", sum := "32449dac176e7ff5e5f35783be503be7ceb4ebe9145afeecbc2a415bca89f8b3", func := "marquee/marqueelaw25.JumpOf", spec := "jumpOf", unfollowed := true, recurses := true, apart := false }
def JumpOfSaid : Prop := jumpOfRow.holds Try.pinned (OpenSpec.ofChange jumpOfSpec)

/-- ITS FALSE NEIGHBOUR: 'it returns false'. Refute it at one input. -/
def jumpOfWrong : ChangeSpec := { name := "jumpOf", fn := fun _ => fun
  | [d1, d2] => { results := [.lit (.bool false)], args := [d1, d2] }
  | _ => none }
def JumpOfWrongFalsely : Prop := jumpOfRow.holds Try.pinned (OpenSpec.ofChange jumpOfWrong)

/-- 'marqueelaw25.JumpBack': WHATEVER THE INPUT: true; the input reads as it did. -/
def jumpBackSpec : ChangeSpec := { name := "jumpBack", fn := fun _ => fun
  | [d1, d2, d3] => { results := [.lit (.bool true)], args := [d1, d2, d3] }
  | _ => none }
def jumpBackRow : OpenClaim := { program := "ytfgnlohnalgnpaa", sum := "32449dac176e7ff5e5f35783be503be7ceb4ebe9145afeecbc2a415bca89f8b3", func := "marquee/marqueelaw25.JumpBack", spec := "jumpBack", unfollowed := true, recurses := true, apart := false }
def JumpBackSaid : Prop := jumpBackRow.holds Try.pinned (OpenSpec.ofChange jumpBackSpec)

/-- ITS FALSE NEIGHBOUR: 'it returns false'. Refute it at one input. -/
def jumpBackWrong : ChangeSpec := { name := "jumpBack", fn := fun _ => fun
  | [d1, d2, d3] => { results := [.lit (.bool false)], args := [d1, d2, d3] }
  | _ => none }
def JumpBackWrongFalsely : Prop := jumpBackRow.holds Try.pinned (OpenSpec.ofChange jumpBackWrong)

/-- 'marqueelaw25.JumpBlocks': WHATEVER THE INPUT: true; the input reads as it did. -/
def jumpBlocksSpec : ChangeSpec := { name := "jumpBlocks", fn := fun _ => fun
  | [d1, d2] => { results := [.lit (.bool true)], args := [d1, d2] }
  | _ => none }
def jumpBlocksRow : OpenClaim := { program := "ytfgnlohnalgnpaa", sum := "32449dac176e7ff5e5f35783be503be7ceb4ebe9145afeecbc2a415bca89f8b3", func := "marquee/marqueelaw25.JumpBlocks", spec := "jumpBlocks", unfollowed := true, recurses := true, apart := false }
def JumpBlocksSaid : Prop := jumpBlocksRow.holds Try.pinned (OpenSpec.ofChange jumpBlocksSpec)

/-- ITS FALSE NEIGHBOUR: 'it returns false'. Refute it at one input. -/
def jumpBlocksWrong : ChangeSpec := { name := "jumpBlocks", fn := fun _ => fun
  | [d1, d2] => { results := [.lit (.bool false)], args := [d1, d2] }
  | _ => none }
def JumpBlocksWrongFalsely : Prop := jumpBlocksRow.holds Try.pinned (OpenSpec.ofChange jumpBlocksWrong)

/- THE SECOND FORM. 'bulk': how many values and letters a reading holds, each counted each time it is reached (what is shared counts as often as it is met; a slice's spare places count too). A statement '..UptoSaid' is the law's where the arguments, and the package variables that the reading takes, are together of bulk at most 1048576: NARROWER than '..Said'. Prove '..Said' where nothing that the law and all that it calls make is longer than what came in: it says more and counts as full. Else prove '..UptoSaid'. A law counts once. -/
mutual
def uptoBulk {H : Type} : DataW H → Nat
  | .lit (.string bytes) => bytes.length + 1
  | .lit _ => 1
  | .nil => 1
  | .ptr d => uptoBulk d + 1
  | .slice elems spare => uptoBulkAll elems + uptoBulkAll spare + 1
  | .agg parts => uptoBulkAll parts + 1
  | .iface _ d => uptoBulk d + 1
  | .map entries => uptoBulkEntries entries + 1
  | .held _ => 1
def uptoBulkAll {H : Type} : List (DataW H) → Nat
  | [] => 0
  | d :: r => uptoBulk d + uptoBulkAll r
def uptoBulkEntries {H : Type} : List (Lit × DataW H) → Nat
  | [] => 0
  | x :: r => uptoBulkEntry x + uptoBulkEntries r
def uptoBulkEntry {H : Type} : Lit × DataW H → Nat
  | (.string bytes, d) => bytes.length + uptoBulk d + 1
  | (_, d) => uptoBulk d + 1
 end
def uptoSmall : (H : Type) → List (DataW H) → Bool := fun _ ds => decide (uptoBulkAll ds ≤ 1048576)
def OpenSpec.upto (s : _root_.Go.ChangeSpec) : _root_.Go.OpenSpec := { _root_.Go.OpenSpec.ofChange s with cond := some uptoSmall }

/-- 'marqueelaw25.JumpNext', WHERE WHAT IT READS IS OF BULK AT MOST 1048576: true; the input reads as it did. -/
def jumpNextUptoRow : OpenClaim := { program := "ytfgnlohnalgnpaa", sum := "32449dac176e7ff5e5f35783be503be7ceb4ebe9145afeecbc2a415bca89f8b3", func := "marquee/marqueelaw25.JumpNext", spec := "jumpNext", unfollowed := true, recurses := true, apart := false, narrowed := true }
def JumpNextUptoSaid : Prop := jumpNextUptoRow.holds Try.pinned (OpenSpec.upto jumpNextSpec)

/-- 'marqueelaw25.JumpSteps', WHERE WHAT IT READS IS OF BULK AT MOST 1048576: true; the input reads as it did. -/
def jumpStepsUptoRow : OpenClaim := { program := "ytfgnlohnalgnpaa", sum := "32449dac176e7ff5e5f35783be503be7ceb4ebe9145afeecbc2a415bca89f8b3", func := "marquee/marqueelaw25.JumpSteps", spec := "jumpSteps", unfollowed := true, recurses := true, apart := false, narrowed := true }
def JumpStepsUptoSaid : Prop := jumpStepsUptoRow.holds Try.pinned (OpenSpec.upto jumpStepsSpec)

/-- 'marqueelaw25.JumpSorts', WHERE WHAT IT READS IS OF BULK AT MOST 1048576: true; the input reads as it did. -/
def jumpSortsUptoRow : OpenClaim := { program := "ytfgnlohnalgnpaa", sum := "32449dac176e7ff5e5f35783be503be7ceb4ebe9145afeecbc2a415bca89f8b3", func := "marquee/marqueelaw25.JumpSorts", spec := "jumpSorts", unfollowed := true, recurses := true, apart := false, narrowed := true }
def JumpSortsUptoSaid : Prop := jumpSortsUptoRow.holds Try.pinned (OpenSpec.upto jumpSortsSpec)

/-- 'marqueelaw25.JumpOf', WHERE WHAT IT READS IS OF BULK AT MOST 1048576: true; the input reads as it did. -/
def jumpOfUptoRow : OpenClaim := { program := "ytfgnlohnalgnpaa", sum := "32449dac176e7ff5e5f35783be503be7ceb4ebe9145afeecbc2a415bca89f8b3", func := "marquee/marqueelaw25.JumpOf", spec := "jumpOf", unfollowed := true, recurses := true, apart := false, narrowed := true }
def JumpOfUptoSaid : Prop := jumpOfUptoRow.holds Try.pinned (OpenSpec.upto jumpOfSpec)

/-- 'marqueelaw25.JumpBack', WHERE WHAT IT READS IS OF BULK AT MOST 1048576: true; the input reads as it did. -/
def jumpBackUptoRow : OpenClaim := { program := "ytfgnlohnalgnpaa", sum := "32449dac176e7ff5e5f35783be503be7ceb4ebe9145afeecbc2a415bca89f8b3", func := "marquee/marqueelaw25.JumpBack", spec := "jumpBack", unfollowed := true, recurses := true, apart := false, narrowed := true }
def JumpBackUptoSaid : Prop := jumpBackUptoRow.holds Try.pinned (OpenSpec.upto jumpBackSpec)

/-- 'marqueelaw25.JumpBlocks', WHERE WHAT IT READS IS OF BULK AT MOST 1048576: true; the input reads as it did. -/
def jumpBlocksUptoRow : OpenClaim := { program := "ytfgnlohnalgnpaa", sum := "32449dac176e7ff5e5f35783be503be7ceb4ebe9145afeecbc2a415bca89f8b3", func := "marquee/marqueelaw25.JumpBlocks", spec := "jumpBlocks", unfollowed := true, recurses := true, apart := false, narrowed := true }
def JumpBlocksUptoSaid : Prop := jumpBlocksUptoRow.holds Try.pinned (OpenSpec.upto jumpBlocksSpec)

end Rows
end Go.Proofs.Ytfgnlohnalgnpaa
