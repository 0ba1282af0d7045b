/-
  DERIVED. GIVEN WITH THE SEED: THE CARDS: each row of YtacmldggdacdpabDoorRows.lean that lists a variable, with what it lists TIED to the program's text (the seventh form; the later family's looks); each row that meets fmt, with fmt's text TOLD by the authors' own Lean function (tested against real Go, not proved from fmt's source: count such statements apart). THE CARD IS WHAT COUNTS. Prove the row's statement (the work); the ties are given (YtacmldggdacdpabDoorTie.lean); close each card by the builder's one call (the guide's Derived/Test/ToyasCard.lean, 'card_holds'). Laid BY PROGRAM, IN A SANDBOX (cutbox-door.mjs). By AI agents, Wed Nov 11 2026. No macro, syntax, notation, axiom, sorry.
-/
import Derived.Test.YtacmldggdacdpabDoorRows
import GoSem.ClaimSeven
namespace Go.Proofs.YtacmldggdacdpabDoor
namespace Rows

/-- THE TIED CARD OF 'marqueelaw02.WidthRanges'. -/
def widthRangesCard : Claim7 := { stood := { row := widthRangesRow, standIns := [], harness := (true, "f7e101cf5d7e0b8c00be34a87b5d03726691781d3d275ff9c2095356159be45a"), looks := false }, kinds := [], alts := [], laidByText := true, laidKinds := [.data, .data], laidTests := true, laidLooks := .later }
def WidthRangesCardSaid : Prop := Claim7.holds Tryd.pinned (.plain (OpenSpec.ofChange widthRangesSpec)) widthRangesCard

/-- THE SECOND FORM's CARD OF 'marqueelaw02.WidthRanges'. -/
def widthRangesUptoCard : Claim7 := { stood := { row := widthRangesUptoRow, standIns := [], harness := (true, "f7e101cf5d7e0b8c00be34a87b5d03726691781d3d275ff9c2095356159be45a"), looks := false }, kinds := [], alts := [], laidByText := true, laidKinds := [.data, .data], laidTests := true, laidLooks := .later }
def WidthRangesUptoCardSaid : Prop := Claim7.holds Tryd.pinned (.plain (OpenSpec.upto widthRangesSpec)) widthRangesUptoCard
end Rows
end Go.Proofs.YtacmldggdacdpabDoor
