/-
  DERIVED. GIVEN WITH THE SEED: THE CARDS: each row of YtoiekhjmfoodiaaDoorRows.lean that lists a variable, with what it lists TIED to the program's text (the seventh form; the later family's looks); each row that meets fmt, with fmt's text TOLD by the authors' own Lean function (tested against real Go, not proved from fmt's source: count such statements apart). THE CARD IS WHAT COUNTS. Prove the row's statement (the work); the ties are given (YtoiekhjmfoodiaaDoorTie.lean); close each card by the builder's one call (the guide's Derived/Test/ToyasCard.lean, 'card_holds'). Laid BY PROGRAM, IN A SANDBOX (cutbox-door.mjs). By AI agents, Wed Nov 11 2026. No macro, syntax, notation, axiom, sorry.
-/
import Derived.Test.YtoiekhjmfoodiaaDoorRows
import GoSem.ClaimSeven
namespace Go.Proofs.YtoiekhjmfoodiaaDoor
namespace Rows

/-- THE TIED CARD OF 'marqueelaw07.CellsRight'. -/
def cellsRightCard : Claim7 := { stood := { row := cellsRightRow, standIns := [], harness := (true, "a2b014abb65ab1397cfd9328ec4114929fcc2e6af4c57fe3c47feab2c78b0c56"), looks := false }, kinds := [], alts := [], laidByText := true, laidKinds := [.data, .data, .data, .pinned], laidTests := true, laidLooks := .later }
def CellsRightCardSaid : Prop := Claim7.holds Tryd.pinned (.plain (OpenSpec.ofChange cellsRightSpec)) cellsRightCard

/-- THE TIED CARD OF 'marqueelaw07.CellsKeep'. -/
def cellsKeepCard : Claim7 := { stood := { row := cellsKeepRow, standIns := [], harness := (true, "a2b014abb65ab1397cfd9328ec4114929fcc2e6af4c57fe3c47feab2c78b0c56"), looks := false }, kinds := [], alts := [], laidByText := true, laidKinds := [.data, .data, .data, .pinned], laidTests := true, laidLooks := .later }
def CellsKeepCardSaid : Prop := Claim7.holds Tryd.pinned (.plain (OpenSpec.ofChange cellsKeepSpec)) cellsKeepCard

/-- THE TIED CARD OF 'marqueelaw07.CellsPlays'. -/
def cellsPlaysCard : Claim7 := { stood := { row := cellsPlaysRow, standIns := [], harness := (true, "a2b014abb65ab1397cfd9328ec4114929fcc2e6af4c57fe3c47feab2c78b0c56"), looks := false }, kinds := [], alts := [], laidByText := true, laidKinds := [.data, .data], laidTests := true, laidLooks := .later }
def CellsPlaysCardSaid : Prop := Claim7.holds Tryd.pinned (.plain (OpenSpec.ofChange cellsPlaysSpec)) cellsPlaysCard

/-- THE TIED CARD OF 'marqueelaw07.CellsBlanks'. -/
def cellsBlanksCard : Claim7 := { stood := { row := cellsBlanksRow, standIns := [], harness := (true, "a2b014abb65ab1397cfd9328ec4114929fcc2e6af4c57fe3c47feab2c78b0c56"), looks := false }, kinds := [], alts := [], laidByText := true, laidKinds := [.data, .data, .data, .pinned], laidTests := true, laidLooks := .later }
def CellsBlanksCardSaid : Prop := Claim7.holds Tryd.pinned (.plain (OpenSpec.ofChange cellsBlanksSpec)) cellsBlanksCard

/-- THE TIED CARD OF 'marqueelaw07.CellsOwn'. -/
def cellsOwnCard : Claim7 := { stood := { row := cellsOwnRow, standIns := [], harness := (true, "a2b014abb65ab1397cfd9328ec4114929fcc2e6af4c57fe3c47feab2c78b0c56"), looks := false }, kinds := [], alts := [], laidByText := true, laidKinds := [.data, .data], laidTests := true, laidLooks := .later }
def CellsOwnCardSaid : Prop := Claim7.holds Tryd.pinned (.plain (OpenSpec.ofChange cellsOwnSpec)) cellsOwnCard

/-- THE SECOND FORM's CARD OF 'marqueelaw07.CellsRight'. -/
def cellsRightUptoCard : Claim7 := { stood := { row := cellsRightUptoRow, standIns := [], harness := (true, "a2b014abb65ab1397cfd9328ec4114929fcc2e6af4c57fe3c47feab2c78b0c56"), looks := false }, kinds := [], alts := [], laidByText := true, laidKinds := [.data, .data, .data, .pinned], laidTests := true, laidLooks := .later }
def CellsRightUptoCardSaid : Prop := Claim7.holds Tryd.pinned (.plain (OpenSpec.upto cellsRightSpec)) cellsRightUptoCard

/-- THE SECOND FORM's CARD OF 'marqueelaw07.CellsKeep'. -/
def cellsKeepUptoCard : Claim7 := { stood := { row := cellsKeepUptoRow, standIns := [], harness := (true, "a2b014abb65ab1397cfd9328ec4114929fcc2e6af4c57fe3c47feab2c78b0c56"), looks := false }, kinds := [], alts := [], laidByText := true, laidKinds := [.data, .data, .data, .pinned], laidTests := true, laidLooks := .later }
def CellsKeepUptoCardSaid : Prop := Claim7.holds Tryd.pinned (.plain (OpenSpec.upto cellsKeepSpec)) cellsKeepUptoCard

/-- THE SECOND FORM's CARD OF 'marqueelaw07.CellsPlays'. -/
def cellsPlaysUptoCard : Claim7 := { stood := { row := cellsPlaysUptoRow, standIns := [], harness := (true, "a2b014abb65ab1397cfd9328ec4114929fcc2e6af4c57fe3c47feab2c78b0c56"), looks := false }, kinds := [], alts := [], laidByText := true, laidKinds := [.data, .data], laidTests := true, laidLooks := .later }
def CellsPlaysUptoCardSaid : Prop := Claim7.holds Tryd.pinned (.plain (OpenSpec.upto cellsPlaysSpec)) cellsPlaysUptoCard

/-- THE SECOND FORM's CARD OF 'marqueelaw07.CellsBlanks'. -/
def cellsBlanksUptoCard : Claim7 := { stood := { row := cellsBlanksUptoRow, standIns := [], harness := (true, "a2b014abb65ab1397cfd9328ec4114929fcc2e6af4c57fe3c47feab2c78b0c56"), looks := false }, kinds := [], alts := [], laidByText := true, laidKinds := [.data, .data, .data, .pinned], laidTests := true, laidLooks := .later }
def CellsBlanksUptoCardSaid : Prop := Claim7.holds Tryd.pinned (.plain (OpenSpec.upto cellsBlanksSpec)) cellsBlanksUptoCard

/-- THE SECOND FORM's CARD OF 'marqueelaw07.CellsOwn'. -/
def cellsOwnUptoCard : Claim7 := { stood := { row := cellsOwnUptoRow, standIns := [], harness := (true, "a2b014abb65ab1397cfd9328ec4114929fcc2e6af4c57fe3c47feab2c78b0c56"), looks := false }, kinds := [], alts := [], laidByText := true, laidKinds := [.data, .data], laidTests := true, laidLooks := .later }
def CellsOwnUptoCardSaid : Prop := Claim7.holds Tryd.pinned (.plain (OpenSpec.upto cellsOwnSpec)) cellsOwnUptoCard
end Rows
end Go.Proofs.YtoiekhjmfoodiaaDoor
