/-
  No cell of these rows narrows 'for every input' (looked for: loops, veiled, ifaces, maps, wideKeys, modest, calm, conditions, laid).
  DERIVED. THE GIVEN ROWS OF THIS SEAT. 5 by the template 'for every input the law returns true; each argument reads behind the call as it read before'; 0 by the template 'total and deterministic' (their statements: YtmkgjfinmojjnaaTotals.lean).
  GIVEN WITH THE SEED: the statements are not yours to turn. If you find one false, say at which input.
  Laid BY PROGRAM, IN A SANDBOX (cutbox-rows.mjs): the forced cells as the released guide's own fill.sh prints them over the translation 1f5429e4fd1f62ad… (all of the seat's roots in one cut). By AI agents, Wed Nov 11 2026. No macro, syntax, notation, axiom, sorry.
-/
import Derived.Test.YtmkgjfinmojjnaaChecked
import GoSem.Claim
import GoSem.ClaimJoined
import GoSem.ClaimMapViews
import Derived.JoinedTies
import Derived.KernelRfl
namespace Go.Proofs.Ytmkgjfinmojjnaa
/- THE CELL 'sum', in the pinned program and in every row, IS THE sha256 OF THE DUMP (.gsa) THAT YtmkgjfinmojjnaaProg.lean LOADS. Nothing in Lean hashes anything: it is a label: what it is worth is what the hold of that sum in a sandbox is worth. -/
noncomputable def Try.pinned : Pinned := { name := "ytmkgjfinmojjnaa", sum := "1f5429e4fd1f62ad51c5ea7b21450fed5c896562f489320064767a2f497a6f33", checked := Try.checked }
namespace Rows
def none {H : Type} : Left H := { results := [], args := [] }

/-- 'marqueelaw22.FindAll': WHATEVER THE INPUT: true; the input reads as it did. -/
def findAllSpec : ChangeSpec := { name := "findAll", fn := fun _ => fun
  | [d1, d2] => { results := [.lit (.bool true)], args := [d1, d2] }
  | _ => none }
def findAllRow : OpenClaim := { program := "ytmkgjfinmojjnaa", sum := "1f5429e4fd1f62ad51c5ea7b21450fed5c896562f489320064767a2f497a6f33", func := "marquee/marqueelaw22.FindAll", spec := "findAll", unfollowed := true, recurses := true, apart := false }
def FindAllSaid : Prop := findAllRow.holds Try.pinned (OpenSpec.ofChange findAllSpec)

/-- ITS FALSE NEIGHBOUR: 'it returns false'. Refute it at one input. -/
def findAllWrong : ChangeSpec := { name := "findAll", fn := fun _ => fun
  | [d1, d2] => { results := [.lit (.bool false)], args := [d1, d2] }
  | _ => none }
def FindAllWrongFalsely : Prop := findAllRow.holds Try.pinned (OpenSpec.ofChange findAllWrong)

/-- 'marqueelaw22.FindNext': WHATEVER THE INPUT: true; the input reads as it did. -/
def findNextSpec : ChangeSpec := { name := "findNext", fn := fun _ => fun
  | [d1, d2, d3] => { results := [.lit (.bool true)], args := [d1, d2, d3] }
  | _ => none }
def findNextRow : OpenClaim := { program := "ytmkgjfinmojjnaa", sum := "1f5429e4fd1f62ad51c5ea7b21450fed5c896562f489320064767a2f497a6f33", func := "marquee/marqueelaw22.FindNext", spec := "findNext", unfollowed := true, recurses := true, apart := false }
def FindNextSaid : Prop := findNextRow.holds Try.pinned (OpenSpec.ofChange findNextSpec)

/-- ITS FALSE NEIGHBOUR: 'it returns false'. Refute it at one input. -/
def findNextWrong : ChangeSpec := { name := "findNext", fn := fun _ => fun
  | [d1, d2, d3] => { results := [.lit (.bool false)], args := [d1, d2, d3] }
  | _ => none }
def FindNextWrongFalsely : Prop := findNextRow.holds Try.pinned (OpenSpec.ofChange findNextWrong)

/-- 'marqueelaw22.FindApart': WHATEVER THE INPUT: true; the input reads as it did. -/
def findApartSpec : ChangeSpec := { name := "findApart", fn := fun _ => fun
  | [d1, d2] => { results := [.lit (.bool true)], args := [d1, d2] }
  | _ => none }
def findApartRow : OpenClaim := { program := "ytmkgjfinmojjnaa", sum := "1f5429e4fd1f62ad51c5ea7b21450fed5c896562f489320064767a2f497a6f33", func := "marquee/marqueelaw22.FindApart", spec := "findApart", unfollowed := true, recurses := true, apart := false }
def FindApartSaid : Prop := findApartRow.holds Try.pinned (OpenSpec.ofChange findApartSpec)

/-- ITS FALSE NEIGHBOUR: 'it returns false'. Refute it at one input. -/
def findApartWrong : ChangeSpec := { name := "findApart", fn := fun _ => fun
  | [d1, d2] => { results := [.lit (.bool false)], args := [d1, d2] }
  | _ => none }
def FindApartWrongFalsely : Prop := findApartRow.holds Try.pinned (OpenSpec.ofChange findApartWrong)

/-- 'marqueelaw22.FindLonger': WHATEVER THE INPUT: true; the input reads as it did. -/
def findLongerSpec : ChangeSpec := { name := "findLonger", fn := fun _ => fun
  | [d1, d2, d3] => { results := [.lit (.bool true)], args := [d1, d2, d3] }
  | _ => none }
def findLongerRow : OpenClaim := { program := "ytmkgjfinmojjnaa", sum := "1f5429e4fd1f62ad51c5ea7b21450fed5c896562f489320064767a2f497a6f33", func := "marquee/marqueelaw22.FindLonger", spec := "findLonger", unfollowed := true, recurses := true, apart := false }
def FindLongerSaid : Prop := findLongerRow.holds Try.pinned (OpenSpec.ofChange findLongerSpec)

/-- ITS FALSE NEIGHBOUR: 'it returns false'. Refute it at one input. -/
def findLongerWrong : ChangeSpec := { name := "findLonger", fn := fun _ => fun
  | [d1, d2, d3] => { results := [.lit (.bool false)], args := [d1, d2, d3] }
  | _ => none }
def FindLongerWrongFalsely : Prop := findLongerRow.holds Try.pinned (OpenSpec.ofChange findLongerWrong)

/-- 'marqueelaw22.FindSelf': WHATEVER THE INPUT: true; the input reads as it did. -/
def findSelfSpec : ChangeSpec := { name := "findSelf", fn := fun _ => fun
  | [d1, d2, d3] => { results := [.lit (.bool true)], args := [d1, d2, d3] }
  | _ => none }
def findSelfRow : OpenClaim := { program := "ytmkgjfinmojjnaa", sum := "1f5429e4fd1f62ad51c5ea7b21450fed5c896562f489320064767a2f497a6f33", func := "marquee/marqueelaw22.FindSelf", spec := "findSelf", unfollowed := true, recurses := true, apart := false }
def FindSelfSaid : Prop := findSelfRow.holds Try.pinned (OpenSpec.ofChange findSelfSpec)

/-- ITS FALSE NEIGHBOUR: 'it returns false'. Refute it at one input. -/
def findSelfWrong : ChangeSpec := { name := "findSelf", fn := fun _ => fun
  | [d1, d2, d3] => { results := [.lit (.bool false)], args := [d1, d2, d3] }
  | _ => none }
def FindSelfWrongFalsely : Prop := findSelfRow.holds Try.pinned (OpenSpec.ofChange findSelfWrong)

/- THE SECOND FORM. 'bulk': how many values and letters a reading holds, each counted each time it is reached (what is shared counts as often as it is met; a slice's spare places count too). A statement '..UptoSaid' is the law's where the arguments, and the package variables that the reading takes, are together of bulk at most 1048576: NARROWER than '..Said'. Prove '..Said' where nothing that the law and all that it calls make is longer than what came in: it says more and counts as full. Else prove '..UptoSaid'. A law counts once. -/
mutual
def uptoBulk {H : Type} : DataW H → Nat
  | .lit (.string bytes) => bytes.length + 1
  | .lit _ => 1
  | .nil => 1
  | .ptr d => uptoBulk d + 1
  | .slice elems spare => uptoBulkAll elems + uptoBulkAll spare + 1
  | .agg parts => uptoBulkAll parts + 1
  | .iface _ d => uptoBulk d + 1
  | .map entries => uptoBulkEntries entries + 1
  | .held _ => 1
def uptoBulkAll {H : Type} : List (DataW H) → Nat
  | [] => 0
  | d :: r => uptoBulk d + uptoBulkAll r
def uptoBulkEntries {H : Type} : List (Lit × DataW H) → Nat
  | [] => 0
  | x :: r => uptoBulkEntry x + uptoBulkEntries r
def uptoBulkEntry {H : Type} : Lit × DataW H → Nat
  | (.string bytes, d) => bytes.length + uptoBulk d + 1
  | (_, d) => uptoBulk d + 1
 end
def uptoSmall : (H : Type) → List (DataW H) → Bool := fun _ ds => decide (uptoBulkAll ds ≤ 1048576)
def OpenSpec.upto (s : _root_.Go.ChangeSpec) : _root_.Go.OpenSpec := { _root_.Go.OpenSpec.ofChange s with cond := some uptoSmall }

/-- 'marqueelaw22.FindAll', WHERE WHAT IT READS IS OF BULK AT MOST 1048576: true; the input reads as it did. -/
def findAllUptoRow : OpenClaim := { program := "ytmkgjfinmojjnaa", sum := "1f5429e4fd1f62ad51c5ea7b21450fed5c896562f489320064767a2f497a6f33", func := "marquee/marqueelaw22.FindAll", spec := "findAll", unfollowed := true, recurses := true, apart := false, narrowed := true }
def FindAllUptoSaid : Prop := findAllUptoRow.holds Try.pinned (OpenSpec.upto findAllSpec)

/-- 'marqueelaw22.FindNext', WHERE WHAT IT READS IS OF BULK AT MOST 1048576: true; the input reads as it did. -/
def findNextUptoRow : OpenClaim := { program := "ytmkgjfinmojjnaa", sum := "1f5429e4fd1f62ad51c5ea7b21450fed5c896562f489320064767a2f497a6f33", func := "marquee/marqueelaw22.FindNext", spec := "findNext", unfollowed := true, recurses := true, apart := false, narrowed := true }
def FindNextUptoSaid : Prop := findNextUptoRow.holds Try.pinned (OpenSpec.upto findNextSpec)

/-- 'marqueelaw22.FindApart', WHERE WHAT IT READS IS OF BULK AT MOST 1048576: true; the input reads as it did. -/
def findApartUptoRow : OpenClaim := { program := "ytmkgjfinmojjnaa", sum := "1f5429e4fd1f62ad51c5ea7b21450fed5c896562f489320064767a2f497a6f33", func := "marquee/marqueelaw22.FindApart", spec := "findApart", unfollowed := true, recurses := true, apart := false, narrowed := true }
def FindApartUptoSaid : Prop := findApartUptoRow.holds Try.pinned (OpenSpec.upto findApartSpec)

/-- 'marqueelaw22.FindLonger', WHERE WHAT IT READS IS OF BULK AT MOST 1048576: true; the input reads as it did. -/
def findLongerUptoRow : OpenClaim := { program := "ytmkgjfinmojjnaa", sum := "1f5429e4fd1f62ad51c5ea7b21450fed5c896562f489320064767a2f497a6f33", func := "marquee/marqueelaw22.FindLonger", spec := "findLonger", unfollowed := true, recurses := true, apart := false, narrowed := true }
def FindLongerUptoSaid : Prop := findLongerUptoRow.holds Try.pinned (OpenSpec.upto findLongerSpec)

/-- 'marqueelaw22.FindSelf', WHERE WHAT IT READS IS OF BULK AT MOST 1048576: true; the input reads as it did. -/
def findSelfUptoRow : OpenClaim := { program := "ytmkgjfinmojjnaa", sum := "1f5429e4fd1f62ad51c5ea7b21450fed5c896562f489320064767a2f497a6f33", func := "marquee/marqueelaw22.FindSelf", spec := "findSelf", unfollowed := true, recurses := true, apart := false, narrowed := true }
def FindSelfUptoSaid : Prop := findSelfUptoRow.holds Try.pinned (OpenSpec.upto findSelfSpec)

end Rows
end Go.Proofs.Ytmkgjfinmojjnaa
