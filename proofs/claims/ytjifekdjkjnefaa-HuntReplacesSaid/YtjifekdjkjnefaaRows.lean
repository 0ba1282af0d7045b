/-
  No cell of these rows narrows 'for every input' (looked for: loops, veiled, ifaces, maps, wideKeys, modest, calm, conditions, laid).
  DERIVED. THE GIVEN ROWS OF THIS SEAT. 6 by the template 'for every input the law returns true; each argument reads behind the call as it read before'; 0 by the template 'total and deterministic' (their statements: YtjifekdjkjnefaaTotals.lean).
  GIVEN WITH THE SEED: the statements are not yours to turn. If you find one false, say at which input.
  Laid BY PROGRAM, IN A SANDBOX (cutbox-rows.mjs): the forced cells as the released guide's own fill.sh prints them over the translation 80b123998e484bc3… (all of the seat's roots in one cut). By AI agents, Wed Nov 11 2026. No macro, syntax, notation, axiom, sorry.
-/
import Derived.Test.YtjifekdjkjnefaaChecked
import GoSem.Claim
import GoSem.ClaimJoined
import GoSem.ClaimMapViews
import Derived.JoinedTies
import Derived.KernelRfl
namespace Go.Proofs.Ytjifekdjkjnefaa
/- THE CELL 'sum', in the pinned program and in every row, IS THE sha256 OF THE DUMP (.gsa) THAT YtjifekdjkjnefaaProg.lean LOADS. Nothing in Lean hashes anything: it is a label: what it is worth is what the hold of that sum in a sandbox is worth. -/
noncomputable def Try.pinned : Pinned := { name := "ytjifekdjkjnefaa", sum := "80b123998e484bc37c95f43fce2fe3248aaa7a66f5ea633909600ee901966b25", checked := Try.checked }
namespace Rows
def none {H : Type} : Left H := { results := [], args := [] }

/-- 'marqueelaw23.HuntAll': WHATEVER THE INPUT: true; the input reads as it did. -/
def huntAllSpec : ChangeSpec := { name := "huntAll", fn := fun _ => fun
  | [d1, d2] => { results := [.lit (.bool true)], args := [d1, d2] }
  | _ => none }
def huntAllRow : OpenClaim := { program := "ytjifekdjkjnefaa", sum := "80b123998e484bc37c95f43fce2fe3248aaa7a66f5ea633909600ee901966b25", func := "marquee/marqueelaw23.HuntAll", spec := "huntAll", unfollowed := true, recurses := true, apart := false }
def HuntAllSaid : Prop := huntAllRow.holds Try.pinned (OpenSpec.ofChange huntAllSpec)

/-- ITS FALSE NEIGHBOUR: 'it returns false'. Refute it at one input. -/
def huntAllWrong : ChangeSpec := { name := "huntAll", fn := fun _ => fun
  | [d1, d2] => { results := [.lit (.bool false)], args := [d1, d2] }
  | _ => none }
def HuntAllWrongFalsely : Prop := huntAllRow.holds Try.pinned (OpenSpec.ofChange huntAllWrong)

/-- 'marqueelaw23.HuntNext': WHATEVER THE INPUT: true; the input reads as it did. -/
def huntNextSpec : ChangeSpec := { name := "huntNext", fn := fun _ => fun
  | [d1, d2, d3] => { results := [.lit (.bool true)], args := [d1, d2, d3] }
  | _ => none }
def huntNextRow : OpenClaim := { program := "ytjifekdjkjnefaa", sum := "80b123998e484bc37c95f43fce2fe3248aaa7a66f5ea633909600ee901966b25", func := "marquee/marqueelaw23.HuntNext", spec := "huntNext", unfollowed := true, recurses := true, apart := false }
def HuntNextSaid : Prop := huntNextRow.holds Try.pinned (OpenSpec.ofChange huntNextSpec)

/-- ITS FALSE NEIGHBOUR: 'it returns false'. Refute it at one input. -/
def huntNextWrong : ChangeSpec := { name := "huntNext", fn := fun _ => fun
  | [d1, d2, d3] => { results := [.lit (.bool false)], args := [d1, d2, d3] }
  | _ => none }
def HuntNextWrongFalsely : Prop := huntNextRow.holds Try.pinned (OpenSpec.ofChange huntNextWrong)

/-- 'marqueelaw23.HuntFirst': WHATEVER THE INPUT: true; the input reads as it did. -/
def huntFirstSpec : ChangeSpec := { name := "huntFirst", fn := fun _ => fun
  | [d1, d2, d3] => { results := [.lit (.bool true)], args := [d1, d2, d3] }
  | _ => none }
def huntFirstRow : OpenClaim := { program := "ytjifekdjkjnefaa", sum := "80b123998e484bc37c95f43fce2fe3248aaa7a66f5ea633909600ee901966b25", func := "marquee/marqueelaw23.HuntFirst", spec := "huntFirst", unfollowed := true, recurses := true, apart := false }
def HuntFirstSaid : Prop := huntFirstRow.holds Try.pinned (OpenSpec.ofChange huntFirstSpec)

/-- ITS FALSE NEIGHBOUR: 'it returns false'. Refute it at one input. -/
def huntFirstWrong : ChangeSpec := { name := "huntFirst", fn := fun _ => fun
  | [d1, d2, d3] => { results := [.lit (.bool false)], args := [d1, d2, d3] }
  | _ => none }
def HuntFirstWrongFalsely : Prop := huntFirstRow.holds Try.pinned (OpenSpec.ofChange huntFirstWrong)

/-- 'marqueelaw23.HuntLongest': WHATEVER THE INPUT: true; the input reads as it did. -/
def huntLongestSpec : ChangeSpec := { name := "huntLongest", fn := fun _ => fun
  | [d1, d2] => { results := [.lit (.bool true)], args := [d1, d2] }
  | _ => none }
def huntLongestRow : OpenClaim := { program := "ytjifekdjkjnefaa", sum := "80b123998e484bc37c95f43fce2fe3248aaa7a66f5ea633909600ee901966b25", func := "marquee/marqueelaw23.HuntLongest", spec := "huntLongest", unfollowed := true, recurses := true, apart := false }
def HuntLongestSaid : Prop := huntLongestRow.holds Try.pinned (OpenSpec.ofChange huntLongestSpec)

/-- ITS FALSE NEIGHBOUR: 'it returns false'. Refute it at one input. -/
def huntLongestWrong : ChangeSpec := { name := "huntLongest", fn := fun _ => fun
  | [d1, d2] => { results := [.lit (.bool false)], args := [d1, d2] }
  | _ => none }
def HuntLongestWrongFalsely : Prop := huntLongestRow.holds Try.pinned (OpenSpec.ofChange huntLongestWrong)

/-- 'marqueelaw23.HuntReplaces': WHATEVER THE INPUT: true; the input reads as it did. -/
def huntReplacesSpec : ChangeSpec := { name := "huntReplaces", fn := fun _ => fun
  | [d1, d2, d3] => { results := [.lit (.bool true)], args := [d1, d2, d3] }
  | _ => none }
def huntReplacesRow : OpenClaim := { program := "ytjifekdjkjnefaa", sum := "80b123998e484bc37c95f43fce2fe3248aaa7a66f5ea633909600ee901966b25", func := "marquee/marqueelaw23.HuntReplaces", spec := "huntReplaces", inPlace := ["internal/abi.NoEscape"], unfollowed := true, recurses := true, apart := false }
def HuntReplacesSaid : Prop := huntReplacesRow.holds Try.pinned (OpenSpec.ofChange huntReplacesSpec)

/-- ITS FALSE NEIGHBOUR: 'it returns false'. Refute it at one input. -/
def huntReplacesWrong : ChangeSpec := { name := "huntReplaces", fn := fun _ => fun
  | [d1, d2, d3] => { results := [.lit (.bool false)], args := [d1, d2, d3] }
  | _ => none }
def HuntReplacesWrongFalsely : Prop := huntReplacesRow.holds Try.pinned (OpenSpec.ofChange huntReplacesWrong)

/-- 'marqueelaw23.HuntParts': WHATEVER THE INPUT: true; the input reads as it did. -/
def huntPartsSpec : ChangeSpec := { name := "huntParts", fn := fun _ => fun
  | [d1, d2] => { results := [.lit (.bool true)], args := [d1, d2] }
  | _ => none }
def huntPartsRow : OpenClaim := { program := "ytjifekdjkjnefaa", sum := "80b123998e484bc37c95f43fce2fe3248aaa7a66f5ea633909600ee901966b25", func := "marquee/marqueelaw23.HuntParts", spec := "huntParts", unfollowed := true, recurses := true, apart := false }
def HuntPartsSaid : Prop := huntPartsRow.holds Try.pinned (OpenSpec.ofChange huntPartsSpec)

/-- ITS FALSE NEIGHBOUR: 'it returns false'. Refute it at one input. -/
def huntPartsWrong : ChangeSpec := { name := "huntParts", fn := fun _ => fun
  | [d1, d2] => { results := [.lit (.bool false)], args := [d1, d2] }
  | _ => none }
def HuntPartsWrongFalsely : Prop := huntPartsRow.holds Try.pinned (OpenSpec.ofChange huntPartsWrong)

/- THE SECOND FORM. 'bulk': how many values and letters a reading holds, each counted each time it is reached (what is shared counts as often as it is met; a slice's spare places count too). A statement '..UptoSaid' is the law's where the arguments, and the package variables that the reading takes, are together of bulk at most 1048576: NARROWER than '..Said'. Prove '..Said' where nothing that the law and all that it calls make is longer than what came in: it says more and counts as full. Else prove '..UptoSaid'. A law counts once. -/
mutual
def uptoBulk {H : Type} : DataW H → Nat
  | .lit (.string bytes) => bytes.length + 1
  | .lit _ => 1
  | .nil => 1
  | .ptr d => uptoBulk d + 1
  | .slice elems spare => uptoBulkAll elems + uptoBulkAll spare + 1
  | .agg parts => uptoBulkAll parts + 1
  | .iface _ d => uptoBulk d + 1
  | .map entries => uptoBulkEntries entries + 1
  | .held _ => 1
def uptoBulkAll {H : Type} : List (DataW H) → Nat
  | [] => 0
  | d :: r => uptoBulk d + uptoBulkAll r
def uptoBulkEntries {H : Type} : List (Lit × DataW H) → Nat
  | [] => 0
  | x :: r => uptoBulkEntry x + uptoBulkEntries r
def uptoBulkEntry {H : Type} : Lit × DataW H → Nat
  | (.string bytes, d) => bytes.length + uptoBulk d + 1
  | (_, d) => uptoBulk d + 1
 end
def uptoSmall : (H : Type) → List (DataW H) → Bool := fun _ ds => decide (uptoBulkAll ds ≤ 1048576)
def OpenSpec.upto (s : _root_.Go.ChangeSpec) : _root_.Go.OpenSpec := { _root_.Go.OpenSpec.ofChange s with cond := some uptoSmall }

/-- 'marqueelaw23.HuntAll', WHERE WHAT IT READS IS OF BULK AT MOST 1048576: true; the input reads as it did. -/
def huntAllUptoRow : OpenClaim := { program := "ytjifekdjkjnefaa", sum := "80b123998e484bc37c95f43fce2fe3248aaa7a66f5ea633909600ee901966b25", func := "marquee/marqueelaw23.HuntAll", spec := "huntAll", unfollowed := true, recurses := true, apart := false, narrowed := true }
def HuntAllUptoSaid : Prop := huntAllUptoRow.holds Try.pinned (OpenSpec.upto huntAllSpec)

/-- 'marqueelaw23.HuntNext', WHERE WHAT IT READS IS OF BULK AT MOST 1048576: true; the input reads as it did. -/
def huntNextUptoRow : OpenClaim := { program := "ytjifekdjkjnefaa", sum := "80b123998e484bc37c95f43fce2fe3248aaa7a66f5ea633909600ee901966b25", func := "marquee/marqueelaw23.HuntNext", spec := "huntNext", unfollowed := true, recurses := true, apart := false, narrowed := true }
def HuntNextUptoSaid : Prop := huntNextUptoRow.holds Try.pinned (OpenSpec.upto huntNextSpec)

/-- 'marqueelaw23.HuntFirst', WHERE WHAT IT READS IS OF BULK AT MOST 1048576: true; the input reads as it did. -/
def huntFirstUptoRow : OpenClaim := { program := "ytjifekdjkjnefaa", sum := "80b123998e484bc37c95f43fce2fe3248aaa7a66f5ea633909600ee901966b25", func := "marquee/marqueelaw23.HuntFirst", spec := "huntFirst", unfollowed := true, recurses := true, apart := false, narrowed := true }
def HuntFirstUptoSaid : Prop := huntFirstUptoRow.holds Try.pinned (OpenSpec.upto huntFirstSpec)

/-- 'marqueelaw23.HuntLongest', WHERE WHAT IT READS IS OF BULK AT MOST 1048576: true; the input reads as it did. -/
def huntLongestUptoRow : OpenClaim := { program := "ytjifekdjkjnefaa", sum := "80b123998e484bc37c95f43fce2fe3248aaa7a66f5ea633909600ee901966b25", func := "marquee/marqueelaw23.HuntLongest", spec := "huntLongest", unfollowed := true, recurses := true, apart := false, narrowed := true }
def HuntLongestUptoSaid : Prop := huntLongestUptoRow.holds Try.pinned (OpenSpec.upto huntLongestSpec)

/-- 'marqueelaw23.HuntReplaces', WHERE WHAT IT READS IS OF BULK AT MOST 1048576: true; the input reads as it did. -/
def huntReplacesUptoRow : OpenClaim := { program := "ytjifekdjkjnefaa", sum := "80b123998e484bc37c95f43fce2fe3248aaa7a66f5ea633909600ee901966b25", func := "marquee/marqueelaw23.HuntReplaces", spec := "huntReplaces", inPlace := ["internal/abi.NoEscape"], unfollowed := true, recurses := true, apart := false, narrowed := true }
def HuntReplacesUptoSaid : Prop := huntReplacesUptoRow.holds Try.pinned (OpenSpec.upto huntReplacesSpec)

/-- 'marqueelaw23.HuntParts', WHERE WHAT IT READS IS OF BULK AT MOST 1048576: true; the input reads as it did. -/
def huntPartsUptoRow : OpenClaim := { program := "ytjifekdjkjnefaa", sum := "80b123998e484bc37c95f43fce2fe3248aaa7a66f5ea633909600ee901966b25", func := "marquee/marqueelaw23.HuntParts", spec := "huntParts", unfollowed := true, recurses := true, apart := false, narrowed := true }
def HuntPartsUptoSaid : Prop := huntPartsUptoRow.holds Try.pinned (OpenSpec.upto huntPartsSpec)

end Rows
end Go.Proofs.Ytjifekdjkjnefaa
