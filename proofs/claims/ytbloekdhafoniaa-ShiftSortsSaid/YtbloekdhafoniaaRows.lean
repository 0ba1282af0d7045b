/-
  No cell of these rows narrows 'for every input' (looked for: loops, veiled, ifaces, maps, wideKeys, modest, calm, conditions, laid).
  DERIVED. THE GIVEN ROWS OF THIS SEAT. 7 by the template 'for every input the law returns true; each argument reads behind the call as it read before'; 0 by the template 'total and deterministic' (their statements: YtbloekdhafoniaaTotals.lean).
  GIVEN WITH THE SEED: the statements are not yours to turn. If you find one false, say at which input.
  Laid BY PROGRAM, IN A SANDBOX (cutbox-rows.mjs): the forced cells as the released guide's own fill.sh prints them over the translation a57799f9fd9c4b72… (all of the seat's roots in one cut). By AI agents, Wed Nov 11 2026. No macro, syntax, notation, axiom, sorry.
-/
import Derived.Test.YtbloekdhafoniaaChecked
import GoSem.Claim
import GoSem.ClaimJoined
import GoSem.ClaimMapViews
import Derived.JoinedTies
import Derived.KernelRfl
namespace Go.Proofs.Ytbloekdhafoniaa
/- THE CELL 'sum', in the pinned program and in every row, IS THE sha256 OF THE DUMP (.gsa) THAT YtbloekdhafoniaaProg.lean LOADS. Nothing in Lean hashes anything: it is a label: what it is worth is what the hold of that sum in a sandbox is worth. -/
noncomputable def Try.pinned : Pinned := { name := "ytbloekdhafoniaa", sum := "a57799f9fd9c4b72cc33c2a61dac555878982207102e20c5bb7e62cb9bbc9ca6", checked := Try.checked }
namespace Rows
def none {H : Type} : Left H := { results := [], args := [] }

/-- 'marqueelaw10.ShiftMoves': WHATEVER THE INPUT: true; the input reads as it did. -/
def shiftMovesSpec : ChangeSpec := { name := "shiftMoves", fn := fun _ => fun
  | [d1, d2] => { results := [.lit (.bool true)], args := [d1, d2] }
  | _ => none }
def shiftMovesRow : OpenClaim := { program := "ytbloekdhafoniaa", sum := "a57799f9fd9c4b72cc33c2a61dac555878982207102e20c5bb7e62cb9bbc9ca6", func := "marquee/marqueelaw10.ShiftMoves", spec := "shiftMoves", apart := false }
def ShiftMovesSaid : Prop := shiftMovesRow.holds Try.pinned (OpenSpec.ofChange shiftMovesSpec)

/-- ITS FALSE NEIGHBOUR: 'it returns false'. Refute it at one input. -/
def shiftMovesWrong : ChangeSpec := { name := "shiftMoves", fn := fun _ => fun
  | [d1, d2] => { results := [.lit (.bool false)], args := [d1, d2] }
  | _ => none }
def ShiftMovesWrongFalsely : Prop := shiftMovesRow.holds Try.pinned (OpenSpec.ofChange shiftMovesWrong)

/-- 'marqueelaw10.ShiftRows': WHATEVER THE INPUT: true; the input reads as it did. -/
def shiftRowsSpec : ChangeSpec := { name := "shiftRows", fn := fun _ => fun
  | [d1, d2, d3] => { results := [.lit (.bool true)], args := [d1, d2, d3] }
  | _ => none }
def shiftRowsRow : OpenClaim := { program := "ytbloekdhafoniaa", sum := "a57799f9fd9c4b72cc33c2a61dac555878982207102e20c5bb7e62cb9bbc9ca6", func := "marquee/marqueelaw10.ShiftRows", spec := "shiftRows", apart := false }
def ShiftRowsSaid : Prop := shiftRowsRow.holds Try.pinned (OpenSpec.ofChange shiftRowsSpec)

/-- ITS FALSE NEIGHBOUR: 'it returns false'. Refute it at one input. -/
def shiftRowsWrong : ChangeSpec := { name := "shiftRows", fn := fun _ => fun
  | [d1, d2, d3] => { results := [.lit (.bool false)], args := [d1, d2, d3] }
  | _ => none }
def ShiftRowsWrongFalsely : Prop := shiftRowsRow.holds Try.pinned (OpenSpec.ofChange shiftRowsWrong)

/-- 'marqueelaw10.ShiftAll': WHATEVER THE INPUT: true; the input reads as it did. -/
def shiftAllSpec : ChangeSpec := { name := "shiftAll", fn := fun _ => fun
  | [d1, d2] => { results := [.lit (.bool true)], args := [d1, d2] }
  | _ => none }
def shiftAllRow : OpenClaim := { program := "ytbloekdhafoniaa", sum := "a57799f9fd9c4b72cc33c2a61dac555878982207102e20c5bb7e62cb9bbc9ca6", func := "marquee/marqueelaw10.ShiftAll", spec := "shiftAll", apart := false }
def ShiftAllSaid : Prop := shiftAllRow.holds Try.pinned (OpenSpec.ofChange shiftAllSpec)

/-- ITS FALSE NEIGHBOUR: 'it returns false'. Refute it at one input. -/
def shiftAllWrong : ChangeSpec := { name := "shiftAll", fn := fun _ => fun
  | [d1, d2] => { results := [.lit (.bool false)], args := [d1, d2] }
  | _ => none }
def ShiftAllWrongFalsely : Prop := shiftAllRow.holds Try.pinned (OpenSpec.ofChange shiftAllWrong)

/-- 'marqueelaw10.ShiftOrder': WHATEVER THE INPUT: true; the input reads as it did. -/
def shiftOrderSpec : ChangeSpec := { name := "shiftOrder", fn := fun _ => fun
  | [d1, d2, d3] => { results := [.lit (.bool true)], args := [d1, d2, d3] }
  | _ => none }
def shiftOrderRow : OpenClaim := { program := "ytbloekdhafoniaa", sum := "a57799f9fd9c4b72cc33c2a61dac555878982207102e20c5bb7e62cb9bbc9ca6", func := "marquee/marqueelaw10.ShiftOrder", spec := "shiftOrder", apart := false }
def ShiftOrderSaid : Prop := shiftOrderRow.holds Try.pinned (OpenSpec.ofChange shiftOrderSpec)

/-- ITS FALSE NEIGHBOUR: 'it returns false'. Refute it at one input. -/
def shiftOrderWrong : ChangeSpec := { name := "shiftOrder", fn := fun _ => fun
  | [d1, d2, d3] => { results := [.lit (.bool false)], args := [d1, d2, d3] }
  | _ => none }
def ShiftOrderWrongFalsely : Prop := shiftOrderRow.holds Try.pinned (OpenSpec.ofChange shiftOrderWrong)

/-- 'marqueelaw10.ShiftBack': WHATEVER THE INPUT: true; the input reads as it did. -/
def shiftBackSpec : ChangeSpec := { name := "shiftBack", fn := fun _ => fun
  | [d1, d2, d3] => { results := [.lit (.bool true)], args := [d1, d2, d3] }
  | _ => none }
def shiftBackRow : OpenClaim := { program := "ytbloekdhafoniaa", sum := "a57799f9fd9c4b72cc33c2a61dac555878982207102e20c5bb7e62cb9bbc9ca6", func := "marquee/marqueelaw10.ShiftBack", spec := "shiftBack", apart := false }
def ShiftBackSaid : Prop := shiftBackRow.holds Try.pinned (OpenSpec.ofChange shiftBackSpec)

/-- ITS FALSE NEIGHBOUR: 'it returns false'. Refute it at one input. -/
def shiftBackWrong : ChangeSpec := { name := "shiftBack", fn := fun _ => fun
  | [d1, d2, d3] => { results := [.lit (.bool false)], args := [d1, d2, d3] }
  | _ => none }
def ShiftBackWrongFalsely : Prop := shiftBackRow.holds Try.pinned (OpenSpec.ofChange shiftBackWrong)

/-- 'marqueelaw10.ShiftPlaces': WHATEVER THE INPUT: true; the input reads as it did. -/
def shiftPlacesSpec : ChangeSpec := { name := "shiftPlaces", fn := fun _ => fun
  | [d1, d2, d3] => { results := [.lit (.bool true)], args := [d1, d2, d3] }
  | _ => none }
def shiftPlacesRow : OpenClaim := { program := "ytbloekdhafoniaa", sum := "a57799f9fd9c4b72cc33c2a61dac555878982207102e20c5bb7e62cb9bbc9ca6", func := "marquee/marqueelaw10.ShiftPlaces", spec := "shiftPlaces", apart := false }
def ShiftPlacesSaid : Prop := shiftPlacesRow.holds Try.pinned (OpenSpec.ofChange shiftPlacesSpec)

/-- ITS FALSE NEIGHBOUR: 'it returns false'. Refute it at one input. -/
def shiftPlacesWrong : ChangeSpec := { name := "shiftPlaces", fn := fun _ => fun
  | [d1, d2, d3] => { results := [.lit (.bool false)], args := [d1, d2, d3] }
  | _ => none }
def ShiftPlacesWrongFalsely : Prop := shiftPlacesRow.holds Try.pinned (OpenSpec.ofChange shiftPlacesWrong)

/-- 'marqueelaw10.ShiftSorts': WHATEVER THE INPUT: true; the input reads as it did. -/
def shiftSortsSpec : ChangeSpec := { name := "shiftSorts", fn := fun _ => fun
  | [d] => { results := [.lit (.bool true)], args := [d] }
  | _ => none }
def shiftSortsRow : OpenClaim := { program := "ytbloekdhafoniaa", sum := "a57799f9fd9c4b72cc33c2a61dac555878982207102e20c5bb7e62cb9bbc9ca6", func := "marquee/marqueelaw10.ShiftSorts", spec := "shiftSorts", unfollowed := true, recurses := true, apart := false }
def ShiftSortsSaid : Prop := shiftSortsRow.holds Try.pinned (OpenSpec.ofChange shiftSortsSpec)

/-- ITS FALSE NEIGHBOUR: 'it returns false'. Refute it at one input. -/
def shiftSortsWrong : ChangeSpec := { name := "shiftSorts", fn := fun _ => fun
  | [d] => { results := [.lit (.bool false)], args := [d] }
  | _ => none }
def ShiftSortsWrongFalsely : Prop := shiftSortsRow.holds Try.pinned (OpenSpec.ofChange shiftSortsWrong)

/- THE SECOND FORM. 'bulk': how many values and letters a reading holds, each counted each time it is reached (what is shared counts as often as it is met; a slice's spare places count too). A statement '..UptoSaid' is the law's where the arguments, and the package variables that the reading takes, are together of bulk at most 1048576: NARROWER than '..Said'. Prove '..Said' where nothing that the law and all that it calls make is longer than what came in: it says more and counts as full. Else prove '..UptoSaid'. A law counts once. -/
mutual
def uptoBulk {H : Type} : DataW H → Nat
  | .lit (.string bytes) => bytes.length + 1
  | .lit _ => 1
  | .nil => 1
  | .ptr d => uptoBulk d + 1
  | .slice elems spare => uptoBulkAll elems + uptoBulkAll spare + 1
  | .agg parts => uptoBulkAll parts + 1
  | .iface _ d => uptoBulk d + 1
  | .map entries => uptoBulkEntries entries + 1
  | .held _ => 1
def uptoBulkAll {H : Type} : List (DataW H) → Nat
  | [] => 0
  | d :: r => uptoBulk d + uptoBulkAll r
def uptoBulkEntries {H : Type} : List (Lit × DataW H) → Nat
  | [] => 0
  | x :: r => uptoBulkEntry x + uptoBulkEntries r
def uptoBulkEntry {H : Type} : Lit × DataW H → Nat
  | (.string bytes, d) => bytes.length + uptoBulk d + 1
  | (_, d) => uptoBulk d + 1
 end
def uptoSmall : (H : Type) → List (DataW H) → Bool := fun _ ds => decide (uptoBulkAll ds ≤ 1048576)
def OpenSpec.upto (s : _root_.Go.ChangeSpec) : _root_.Go.OpenSpec := { _root_.Go.OpenSpec.ofChange s with cond := some uptoSmall }

/-- 'marqueelaw10.ShiftMoves', WHERE WHAT IT READS IS OF BULK AT MOST 1048576: true; the input reads as it did. -/
def shiftMovesUptoRow : OpenClaim := { program := "ytbloekdhafoniaa", sum := "a57799f9fd9c4b72cc33c2a61dac555878982207102e20c5bb7e62cb9bbc9ca6", func := "marquee/marqueelaw10.ShiftMoves", spec := "shiftMoves", apart := false, narrowed := true }
def ShiftMovesUptoSaid : Prop := shiftMovesUptoRow.holds Try.pinned (OpenSpec.upto shiftMovesSpec)

/-- 'marqueelaw10.ShiftRows', WHERE WHAT IT READS IS OF BULK AT MOST 1048576: true; the input reads as it did. -/
def shiftRowsUptoRow : OpenClaim := { program := "ytbloekdhafoniaa", sum := "a57799f9fd9c4b72cc33c2a61dac555878982207102e20c5bb7e62cb9bbc9ca6", func := "marquee/marqueelaw10.ShiftRows", spec := "shiftRows", apart := false, narrowed := true }
def ShiftRowsUptoSaid : Prop := shiftRowsUptoRow.holds Try.pinned (OpenSpec.upto shiftRowsSpec)

/-- 'marqueelaw10.ShiftAll', WHERE WHAT IT READS IS OF BULK AT MOST 1048576: true; the input reads as it did. -/
def shiftAllUptoRow : OpenClaim := { program := "ytbloekdhafoniaa", sum := "a57799f9fd9c4b72cc33c2a61dac555878982207102e20c5bb7e62cb9bbc9ca6", func := "marquee/marqueelaw10.ShiftAll", spec := "shiftAll", apart := false, narrowed := true }
def ShiftAllUptoSaid : Prop := shiftAllUptoRow.holds Try.pinned (OpenSpec.upto shiftAllSpec)

/-- 'marqueelaw10.ShiftOrder', WHERE WHAT IT READS IS OF BULK AT MOST 1048576: true; the input reads as it did. -/
def shiftOrderUptoRow : OpenClaim := { program := "ytbloekdhafoniaa", sum := "a57799f9fd9c4b72cc33c2a61dac555878982207102e20c5bb7e62cb9bbc9ca6", func := "marquee/marqueelaw10.ShiftOrder", spec := "shiftOrder", apart := false, narrowed := true }
def ShiftOrderUptoSaid : Prop := shiftOrderUptoRow.holds Try.pinned (OpenSpec.upto shiftOrderSpec)

/-- 'marqueelaw10.ShiftBack', WHERE WHAT IT READS IS OF BULK AT MOST 1048576: true; the input reads as it did. -/
def shiftBackUptoRow : OpenClaim := { program := "ytbloekdhafoniaa", sum := "a57799f9fd9c4b72cc33c2a61dac555878982207102e20c5bb7e62cb9bbc9ca6", func := "marquee/marqueelaw10.ShiftBack", spec := "shiftBack", apart := false, narrowed := true }
def ShiftBackUptoSaid : Prop := shiftBackUptoRow.holds Try.pinned (OpenSpec.upto shiftBackSpec)

/-- 'marqueelaw10.ShiftPlaces', WHERE WHAT IT READS IS OF BULK AT MOST 1048576: true; the input reads as it did. -/
def shiftPlacesUptoRow : OpenClaim := { program := "ytbloekdhafoniaa", sum := "a57799f9fd9c4b72cc33c2a61dac555878982207102e20c5bb7e62cb9bbc9ca6", func := "marquee/marqueelaw10.ShiftPlaces", spec := "shiftPlaces", apart := false, narrowed := true }
def ShiftPlacesUptoSaid : Prop := shiftPlacesUptoRow.holds Try.pinned (OpenSpec.upto shiftPlacesSpec)

/-- 'marqueelaw10.ShiftSorts', WHERE WHAT IT READS IS OF BULK AT MOST 1048576: true; the input reads as it did. -/
def shiftSortsUptoRow : OpenClaim := { program := "ytbloekdhafoniaa", sum := "a57799f9fd9c4b72cc33c2a61dac555878982207102e20c5bb7e62cb9bbc9ca6", func := "marquee/marqueelaw10.ShiftSorts", spec := "shiftSorts", unfollowed := true, recurses := true, apart := false, narrowed := true }
def ShiftSortsUptoSaid : Prop := shiftSortsUptoRow.holds Try.pinned (OpenSpec.upto shiftSortsSpec)

end Rows
end Go.Proofs.Ytbloekdhafoniaa
