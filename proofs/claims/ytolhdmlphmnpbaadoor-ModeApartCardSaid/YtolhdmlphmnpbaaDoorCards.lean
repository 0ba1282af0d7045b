/-
  DERIVED. GIVEN WITH THE SEED: THE CARDS: each row of YtolhdmlphmnpbaaDoorRows.lean that lists a variable, with what it lists TIED to the program's text (the seventh form; the later family's looks); each row that meets fmt, with fmt's text TOLD by the authors' own Lean function (tested against real Go, not proved from fmt's source: count such statements apart). THE CARD IS WHAT COUNTS. Prove the row's statement (the work); the ties are given (YtolhdmlphmnpbaaDoorTie.lean); close each card by the builder's one call (the guide's Derived/Test/ToyasCard.lean, 'card_holds'). Laid BY PROGRAM, IN A SANDBOX (cutbox-door.mjs). By AI agents, Wed Nov 11 2026. No macro, syntax, notation, axiom, sorry.
-/
import Derived.Test.YtolhdmlphmnpbaaDoorRows
import GoSem.ClaimSeven
namespace Go.Proofs.YtolhdmlphmnpbaaDoor
namespace Rows

/-- THE TIED CARD OF 'marqueelaw12.ModePlays'. -/
def modePlaysCard : Claim7 := { stood := { row := modePlaysRow, standIns := [], harness := (true, "0f1be9501e5e05f7893379b9e58e6f26504b339d81a94caa914f416acfb77712"), looks := false }, kinds := [], alts := [], laidByText := true, laidKinds := [.data, .data, .data, .data], laidTests := true, laidLooks := .later }
def ModePlaysCardSaid : Prop := Claim7.holds Tryd.pinned (.plain (OpenSpec.ofChange modePlaysSpec)) modePlaysCard

/-- THE TIED CARD OF 'marqueelaw12.ModeReports'. -/
def modeReportsCard : Claim7 := { stood := { row := modeReportsRow, standIns := [], harness := (true, "0f1be9501e5e05f7893379b9e58e6f26504b339d81a94caa914f416acfb77712"), looks := false }, kinds := [], alts := [], laidByText := true, laidKinds := [.data, .data, .data, .data], laidTests := true, laidLooks := .later }
def ModeReportsCardSaid : Prop := Claim7.holds Tryd.pinned (.plain (OpenSpec.ofChange modeReportsSpec)) modeReportsCard

/-- THE TIED CARD OF 'marqueelaw12.ModeBack'. -/
def modeBackCard : Claim7 := { stood := { row := modeBackRow, standIns := [], harness := (true, "0f1be9501e5e05f7893379b9e58e6f26504b339d81a94caa914f416acfb77712"), looks := false }, kinds := [], alts := [], laidByText := true, laidKinds := [.data, .data, .data, .data], laidTests := true, laidLooks := .later }
def ModeBackCardSaid : Prop := Claim7.holds Tryd.pinned (.plain (OpenSpec.ofChange modeBackSpec)) modeBackCard

/-- THE TIED CARD OF 'marqueelaw12.ModeApart'. -/
def modeApartCard : Claim7 := { stood := { row := modeApartRow, standIns := [], harness := (true, "0f1be9501e5e05f7893379b9e58e6f26504b339d81a94caa914f416acfb77712"), looks := false }, kinds := [], alts := [], laidByText := true, laidKinds := [.data, .data, .data, .data], laidTests := true, laidLooks := .later }
def ModeApartCardSaid : Prop := Claim7.holds Tryd.pinned (.plain (OpenSpec.ofChange modeApartSpec)) modeApartCard

/-- THE SECOND FORM's CARD OF 'marqueelaw12.ModePlays'. -/
def modePlaysUptoCard : Claim7 := { stood := { row := modePlaysUptoRow, standIns := [], harness := (true, "0f1be9501e5e05f7893379b9e58e6f26504b339d81a94caa914f416acfb77712"), looks := false }, kinds := [], alts := [], laidByText := true, laidKinds := [.data, .data, .data, .data], laidTests := true, laidLooks := .later }
def ModePlaysUptoCardSaid : Prop := Claim7.holds Tryd.pinned (.plain (OpenSpec.upto modePlaysSpec)) modePlaysUptoCard

/-- THE SECOND FORM's CARD OF 'marqueelaw12.ModeReports'. -/
def modeReportsUptoCard : Claim7 := { stood := { row := modeReportsUptoRow, standIns := [], harness := (true, "0f1be9501e5e05f7893379b9e58e6f26504b339d81a94caa914f416acfb77712"), looks := false }, kinds := [], alts := [], laidByText := true, laidKinds := [.data, .data, .data, .data], laidTests := true, laidLooks := .later }
def ModeReportsUptoCardSaid : Prop := Claim7.holds Tryd.pinned (.plain (OpenSpec.upto modeReportsSpec)) modeReportsUptoCard

/-- THE SECOND FORM's CARD OF 'marqueelaw12.ModeBack'. -/
def modeBackUptoCard : Claim7 := { stood := { row := modeBackUptoRow, standIns := [], harness := (true, "0f1be9501e5e05f7893379b9e58e6f26504b339d81a94caa914f416acfb77712"), looks := false }, kinds := [], alts := [], laidByText := true, laidKinds := [.data, .data, .data, .data], laidTests := true, laidLooks := .later }
def ModeBackUptoCardSaid : Prop := Claim7.holds Tryd.pinned (.plain (OpenSpec.upto modeBackSpec)) modeBackUptoCard

/-- THE SECOND FORM's CARD OF 'marqueelaw12.ModeApart'. -/
def modeApartUptoCard : Claim7 := { stood := { row := modeApartUptoRow, standIns := [], harness := (true, "0f1be9501e5e05f7893379b9e58e6f26504b339d81a94caa914f416acfb77712"), looks := false }, kinds := [], alts := [], laidByText := true, laidKinds := [.data, .data, .data, .data], laidTests := true, laidLooks := .later }
def ModeApartUptoCardSaid : Prop := Claim7.holds Tryd.pinned (.plain (OpenSpec.upto modeApartSpec)) modeApartUptoCard
end Rows
end Go.Proofs.YtolhdmlphmnpbaaDoor
