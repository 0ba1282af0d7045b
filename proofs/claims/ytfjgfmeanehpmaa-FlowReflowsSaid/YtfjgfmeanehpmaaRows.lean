/-
  No cell of these rows narrows 'for every input' (looked for: loops, veiled, ifaces, maps, wideKeys, modest, calm, conditions, laid).
  DERIVED. THE GIVEN ROWS OF THIS SEAT. 7 by the template 'for every input the law returns true; each argument reads behind the call as it read before'; 0 by the template 'total and deterministic' (their statements: YtfjgfmeanehpmaaTotals.lean).
  GIVEN WITH THE SEED: the statements are not yours to turn. If you find one false, say at which input.
  Laid BY PROGRAM, IN A SANDBOX (cutbox-rows.mjs): the forced cells as the released guide's own fill.sh prints them over the translation 449a7042b71a6e56… (all of the seat's roots in one cut). By AI agents, Wed Nov 11 2026. No macro, syntax, notation, axiom, sorry.
-/
import Derived.Test.YtfjgfmeanehpmaaChecked
import GoSem.Claim
import GoSem.ClaimJoined
import GoSem.ClaimMapViews
import Derived.JoinedTies
import Derived.KernelRfl
namespace Go.Proofs.Ytfjgfmeanehpmaa
/- THE CELL 'sum', in the pinned program and in every row, IS THE sha256 OF THE DUMP (.gsa) THAT YtfjgfmeanehpmaaProg.lean LOADS. Nothing in Lean hashes anything: it is a label: what it is worth is what the hold of that sum in a sandbox is worth. -/
noncomputable def Try.pinned : Pinned := { name := "ytfjgfmeanehpmaa", sum := "449a7042b71a6e5619ac0220b85127004b730ec2f161228f8961bb88584e70a6", checked := Try.checked }
namespace Rows
def none {H : Type} : Left H := { results := [], args := [] }

/-- 'marqueelaw08.FlowLines': WHATEVER THE INPUT: true; the input reads as it did. -/
def flowLinesSpec : ChangeSpec := { name := "flowLines", fn := fun _ => fun
  | [d] => { results := [.lit (.bool true)], args := [d] }
  | _ => none }
def flowLinesRow : OpenClaim := { program := "ytfjgfmeanehpmaa", sum := "449a7042b71a6e5619ac0220b85127004b730ec2f161228f8961bb88584e70a6", func := "marquee/marqueelaw08.FlowLines", spec := "flowLines", unfollowed := true, recurses := true, apart := false }
def FlowLinesSaid : Prop := flowLinesRow.holds Try.pinned (OpenSpec.ofChange flowLinesSpec)

/-- ITS FALSE NEIGHBOUR: 'it returns false'. Refute it at one input. -/
def flowLinesWrong : ChangeSpec := { name := "flowLines", fn := fun _ => fun
  | [d] => { results := [.lit (.bool false)], args := [d] }
  | _ => none }
def FlowLinesWrongFalsely : Prop := flowLinesRow.holds Try.pinned (OpenSpec.ofChange flowLinesWrong)

/-- 'marqueelaw08.FlowSplits': WHATEVER THE INPUT: true; the input reads as it did. -/
def flowSplitsSpec : ChangeSpec := { name := "flowSplits", fn := fun _ => fun
  | [d1, d2] => { results := [.lit (.bool true)], args := [d1, d2] }
  | _ => none }
def flowSplitsRow : OpenClaim := { program := "ytfjgfmeanehpmaa", sum := "449a7042b71a6e5619ac0220b85127004b730ec2f161228f8961bb88584e70a6", func := "marquee/marqueelaw08.FlowSplits", spec := "flowSplits", apart := false }
def FlowSplitsSaid : Prop := flowSplitsRow.holds Try.pinned (OpenSpec.ofChange flowSplitsSpec)

/-- ITS FALSE NEIGHBOUR: 'it returns false'. Refute it at one input. -/
def flowSplitsWrong : ChangeSpec := { name := "flowSplits", fn := fun _ => fun
  | [d1, d2] => { results := [.lit (.bool false)], args := [d1, d2] }
  | _ => none }
def FlowSplitsWrongFalsely : Prop := flowSplitsRow.holds Try.pinned (OpenSpec.ofChange flowSplitsWrong)

/-- 'marqueelaw08.FlowPlaces': WHATEVER THE INPUT: true; the input reads as it did. -/
def flowPlacesSpec : ChangeSpec := { name := "flowPlaces", fn := fun _ => fun
  | [d1, d2, d3] => { results := [.lit (.bool true)], args := [d1, d2, d3] }
  | _ => none }
def flowPlacesRow : OpenClaim := { program := "ytfjgfmeanehpmaa", sum := "449a7042b71a6e5619ac0220b85127004b730ec2f161228f8961bb88584e70a6", func := "marquee/marqueelaw08.FlowPlaces", spec := "flowPlaces", unfollowed := true, recurses := true, apart := false }
def FlowPlacesSaid : Prop := flowPlacesRow.holds Try.pinned (OpenSpec.ofChange flowPlacesSpec)

/-- ITS FALSE NEIGHBOUR: 'it returns false'. Refute it at one input. -/
def flowPlacesWrong : ChangeSpec := { name := "flowPlaces", fn := fun _ => fun
  | [d1, d2, d3] => { results := [.lit (.bool false)], args := [d1, d2, d3] }
  | _ => none }
def FlowPlacesWrongFalsely : Prop := flowPlacesRow.holds Try.pinned (OpenSpec.ofChange flowPlacesWrong)

/-- 'marqueelaw08.FlowReflows': WHATEVER THE INPUT: true; the input reads as it did. -/
def flowReflowsSpec : ChangeSpec := { name := "flowReflows", fn := fun _ => fun
  | [d1, d2, d3] => { results := [.lit (.bool true)], args := [d1, d2, d3] }
  | _ => none }
def flowReflowsRow : OpenClaim := { program := "ytfjgfmeanehpmaa", sum := "449a7042b71a6e5619ac0220b85127004b730ec2f161228f8961bb88584e70a6", func := "marquee/marqueelaw08.FlowReflows", spec := "flowReflows", unfollowed := true, recurses := true, apart := false }
def FlowReflowsSaid : Prop := flowReflowsRow.holds Try.pinned (OpenSpec.ofChange flowReflowsSpec)

/-- ITS FALSE NEIGHBOUR: 'it returns false'. Refute it at one input. -/
def flowReflowsWrong : ChangeSpec := { name := "flowReflows", fn := fun _ => fun
  | [d1, d2, d3] => { results := [.lit (.bool false)], args := [d1, d2, d3] }
  | _ => none }
def FlowReflowsWrongFalsely : Prop := flowReflowsRow.holds Try.pinned (OpenSpec.ofChange flowReflowsWrong)

/-- 'marqueelaw08.FlowBack': WHATEVER THE INPUT: true; the input reads as it did. -/
def flowBackSpec : ChangeSpec := { name := "flowBack", fn := fun _ => fun
  | [d1, d2] => { results := [.lit (.bool true)], args := [d1, d2] }
  | _ => none }
def flowBackRow : OpenClaim := { program := "ytfjgfmeanehpmaa", sum := "449a7042b71a6e5619ac0220b85127004b730ec2f161228f8961bb88584e70a6", func := "marquee/marqueelaw08.FlowBack", spec := "flowBack", apart := false }
def FlowBackSaid : Prop := flowBackRow.holds Try.pinned (OpenSpec.ofChange flowBackSpec)

/-- ITS FALSE NEIGHBOUR: 'it returns false'. Refute it at one input. -/
def flowBackWrong : ChangeSpec := { name := "flowBack", fn := fun _ => fun
  | [d1, d2] => { results := [.lit (.bool false)], args := [d1, d2] }
  | _ => none }
def FlowBackWrongFalsely : Prop := flowBackRow.holds Try.pinned (OpenSpec.ofChange flowBackWrong)

/-- 'marqueelaw08.FlowTwice': WHATEVER THE INPUT: true; the input reads as it did. -/
def flowTwiceSpec : ChangeSpec := { name := "flowTwice", fn := fun _ => fun
  | [d1, d2, d3] => { results := [.lit (.bool true)], args := [d1, d2, d3] }
  | _ => none }
def flowTwiceRow : OpenClaim := { program := "ytfjgfmeanehpmaa", sum := "449a7042b71a6e5619ac0220b85127004b730ec2f161228f8961bb88584e70a6", func := "marquee/marqueelaw08.FlowTwice", spec := "flowTwice", unfollowed := true, recurses := true, apart := false }
def FlowTwiceSaid : Prop := flowTwiceRow.holds Try.pinned (OpenSpec.ofChange flowTwiceSpec)

/-- ITS FALSE NEIGHBOUR: 'it returns false'. Refute it at one input. -/
def flowTwiceWrong : ChangeSpec := { name := "flowTwice", fn := fun _ => fun
  | [d1, d2, d3] => { results := [.lit (.bool false)], args := [d1, d2, d3] }
  | _ => none }
def FlowTwiceWrongFalsely : Prop := flowTwiceRow.holds Try.pinned (OpenSpec.ofChange flowTwiceWrong)

/-- 'marqueelaw08.FlowOrder': WHATEVER THE INPUT: true; the input reads as it did. -/
def flowOrderSpec : ChangeSpec := { name := "flowOrder", fn := fun _ => fun
  | [d1, d2, d3] => { results := [.lit (.bool true)], args := [d1, d2, d3] }
  | _ => none }
def flowOrderRow : OpenClaim := { program := "ytfjgfmeanehpmaa", sum := "449a7042b71a6e5619ac0220b85127004b730ec2f161228f8961bb88584e70a6", func := "marquee/marqueelaw08.FlowOrder", spec := "flowOrder", unfollowed := true, recurses := true, apart := false }
def FlowOrderSaid : Prop := flowOrderRow.holds Try.pinned (OpenSpec.ofChange flowOrderSpec)

/-- ITS FALSE NEIGHBOUR: 'it returns false'. Refute it at one input. -/
def flowOrderWrong : ChangeSpec := { name := "flowOrder", fn := fun _ => fun
  | [d1, d2, d3] => { results := [.lit (.bool false)], args := [d1, d2, d3] }
  | _ => none }
def FlowOrderWrongFalsely : Prop := flowOrderRow.holds Try.pinned (OpenSpec.ofChange flowOrderWrong)

/- THE SECOND FORM. 'bulk': how many values and letters a reading holds, each counted each time it is reached (what is shared counts as often as it is met; a slice's spare places count too). A statement '..UptoSaid' is the law's where the arguments, and the package variables that the reading takes, are together of bulk at most 1048576: NARROWER than '..Said'. Prove '..Said' where nothing that the law and all that it calls make is longer than what came in: it says more and counts as full. Else prove '..UptoSaid'. A law counts once. -/
mutual
def uptoBulk {H : Type} : DataW H → Nat
  | .lit (.string bytes) => bytes.length + 1
  | .lit _ => 1
  | .nil => 1
  | .ptr d => uptoBulk d + 1
  | .slice elems spare => uptoBulkAll elems + uptoBulkAll spare + 1
  | .agg parts => uptoBulkAll parts + 1
  | .iface _ d => uptoBulk d + 1
  | .map entries => uptoBulkEntries entries + 1
  | .held _ => 1
def uptoBulkAll {H : Type} : List (DataW H) → Nat
  | [] => 0
  | d :: r => uptoBulk d + uptoBulkAll r
def uptoBulkEntries {H : Type} : List (Lit × DataW H) → Nat
  | [] => 0
  | x :: r => uptoBulkEntry x + uptoBulkEntries r
def uptoBulkEntry {H : Type} : Lit × DataW H → Nat
  | (.string bytes, d) => bytes.length + uptoBulk d + 1
  | (_, d) => uptoBulk d + 1
 end
def uptoSmall : (H : Type) → List (DataW H) → Bool := fun _ ds => decide (uptoBulkAll ds ≤ 1048576)
def OpenSpec.upto (s : _root_.Go.ChangeSpec) : _root_.Go.OpenSpec := { _root_.Go.OpenSpec.ofChange s with cond := some uptoSmall }

/-- 'marqueelaw08.FlowLines', WHERE WHAT IT READS IS OF BULK AT MOST 1048576: true; the input reads as it did. -/
def flowLinesUptoRow : OpenClaim := { program := "ytfjgfmeanehpmaa", sum := "449a7042b71a6e5619ac0220b85127004b730ec2f161228f8961bb88584e70a6", func := "marquee/marqueelaw08.FlowLines", spec := "flowLines", unfollowed := true, recurses := true, apart := false, narrowed := true }
def FlowLinesUptoSaid : Prop := flowLinesUptoRow.holds Try.pinned (OpenSpec.upto flowLinesSpec)

/-- 'marqueelaw08.FlowSplits', WHERE WHAT IT READS IS OF BULK AT MOST 1048576: true; the input reads as it did. -/
def flowSplitsUptoRow : OpenClaim := { program := "ytfjgfmeanehpmaa", sum := "449a7042b71a6e5619ac0220b85127004b730ec2f161228f8961bb88584e70a6", func := "marquee/marqueelaw08.FlowSplits", spec := "flowSplits", apart := false, narrowed := true }
def FlowSplitsUptoSaid : Prop := flowSplitsUptoRow.holds Try.pinned (OpenSpec.upto flowSplitsSpec)

/-- 'marqueelaw08.FlowPlaces', WHERE WHAT IT READS IS OF BULK AT MOST 1048576: true; the input reads as it did. -/
def flowPlacesUptoRow : OpenClaim := { program := "ytfjgfmeanehpmaa", sum := "449a7042b71a6e5619ac0220b85127004b730ec2f161228f8961bb88584e70a6", func := "marquee/marqueelaw08.FlowPlaces", spec := "flowPlaces", unfollowed := true, recurses := true, apart := false, narrowed := true }
def FlowPlacesUptoSaid : Prop := flowPlacesUptoRow.holds Try.pinned (OpenSpec.upto flowPlacesSpec)

/-- 'marqueelaw08.FlowReflows', WHERE WHAT IT READS IS OF BULK AT MOST 1048576: true; the input reads as it did. -/
def flowReflowsUptoRow : OpenClaim := { program := "ytfjgfmeanehpmaa", sum := "449a7042b71a6e5619ac0220b85127004b730ec2f161228f8961bb88584e70a6", func := "marquee/marqueelaw08.FlowReflows", spec := "flowReflows", unfollowed := true, recurses := true, apart := false, narrowed := true }
def FlowReflowsUptoSaid : Prop := flowReflowsUptoRow.holds Try.pinned (OpenSpec.upto flowReflowsSpec)

/-- 'marqueelaw08.FlowBack', WHERE WHAT IT READS IS OF BULK AT MOST 1048576: true; the input reads as it did. -/
def flowBackUptoRow : OpenClaim := { program := "ytfjgfmeanehpmaa", sum := "449a7042b71a6e5619ac0220b85127004b730ec2f161228f8961bb88584e70a6", func := "marquee/marqueelaw08.FlowBack", spec := "flowBack", apart := false, narrowed := true }
def FlowBackUptoSaid : Prop := flowBackUptoRow.holds Try.pinned (OpenSpec.upto flowBackSpec)

/-- 'marqueelaw08.FlowTwice', WHERE WHAT IT READS IS OF BULK AT MOST 1048576: true; the input reads as it did. -/
def flowTwiceUptoRow : OpenClaim := { program := "ytfjgfmeanehpmaa", sum := "449a7042b71a6e5619ac0220b85127004b730ec2f161228f8961bb88584e70a6", func := "marquee/marqueelaw08.FlowTwice", spec := "flowTwice", unfollowed := true, recurses := true, apart := false, narrowed := true }
def FlowTwiceUptoSaid : Prop := flowTwiceUptoRow.holds Try.pinned (OpenSpec.upto flowTwiceSpec)

/-- 'marqueelaw08.FlowOrder', WHERE WHAT IT READS IS OF BULK AT MOST 1048576: true; the input reads as it did. -/
def flowOrderUptoRow : OpenClaim := { program := "ytfjgfmeanehpmaa", sum := "449a7042b71a6e5619ac0220b85127004b730ec2f161228f8961bb88584e70a6", func := "marquee/marqueelaw08.FlowOrder", spec := "flowOrder", unfollowed := true, recurses := true, apart := false, narrowed := true }
def FlowOrderUptoSaid : Prop := flowOrderUptoRow.holds Try.pinned (OpenSpec.upto flowOrderSpec)

end Rows
end Go.Proofs.Ytfjgfmeanehpmaa
