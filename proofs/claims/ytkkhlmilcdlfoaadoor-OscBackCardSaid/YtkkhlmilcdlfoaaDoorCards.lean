/-
  DERIVED. GIVEN WITH THE SEED: THE CARDS: each row of YtkkhlmilcdlfoaaDoorRows.lean that lists a variable, with what it lists TIED to the program's text (the seventh form; the later family's looks); each row that meets fmt, with fmt's text TOLD by the authors' own Lean function (tested against real Go, not proved from fmt's source: count such statements apart). THE CARD IS WHAT COUNTS. Prove the row's statement (the work); the ties are given (YtkkhlmilcdlfoaaDoorTie.lean); close each card by the builder's one call (the guide's Derived/Test/ToyasCard.lean, 'card_holds'). Laid BY PROGRAM, IN A SANDBOX (cutbox-door.mjs). By AI agents, Wed Nov 11 2026. No macro, syntax, notation, axiom, sorry.
-/
import Derived.Test.YtkkhlmilcdlfoaaDoorRows
import GoSem.ClaimSeven
namespace Go.Proofs.YtkkhlmilcdlfoaaDoor
namespace Rows

/-- THE TIED CARD OF 'marqueelaw17.OscReads'. -/
def oscReadsCard : Claim7 := { stood := { row := oscReadsRow, standIns := [], harness := (true, "ee4617ea5cdab8b000e9a572f5453499305eaf2a41c58e40aa0c7ffc63798fbb"), looks := true }, kinds := [], alts := [], laidByText := true, laidKinds := [.data, .data, .data, .data, .sentinel, .sentinel, .data, .data, .pinned, .pinned], laidTests := true, laidLooks := .later }
def OscReadsCardSaid : Prop := Claim7.holds Tryd.pinned (.plain (OpenSpec.ofChange oscReadsSpec)) oscReadsCard

/-- THE TIED CARD OF 'marqueelaw17.OscWrites'. -/
def oscWritesCard : Claim7 := { stood := { row := oscWritesRow, standIns := [], harness := (true, "ee4617ea5cdab8b000e9a572f5453499305eaf2a41c58e40aa0c7ffc63798fbb"), looks := true }, kinds := [], alts := [], laidByText := true, laidKinds := [.data, .data, .data, .data, .sentinel, .sentinel, .data, .data, .pinned, .pinned], laidTests := true, laidLooks := .later }
def OscWritesCardSaid : Prop := Claim7.holds Tryd.pinned (.plain (OpenSpec.ofChange oscWritesSpec)) oscWritesCard

/-- THE TIED CARD OF 'marqueelaw17.OscBack'. -/
def oscBackCard : Claim7 := { stood := { row := oscBackRow, standIns := [], harness := (true, "ee4617ea5cdab8b000e9a572f5453499305eaf2a41c58e40aa0c7ffc63798fbb"), looks := true }, kinds := [], alts := [], laidByText := true, laidKinds := [.data, .data, .data, .data, .sentinel, .sentinel, .data, .data, .pinned, .pinned], laidTests := true, laidLooks := .later }
def OscBackCardSaid : Prop := Claim7.holds Tryd.pinned (.plain (OpenSpec.ofChange oscBackSpec)) oscBackCard

/-- THE TIED CARD OF 'marqueelaw17.OscEscapes'. -/
def oscEscapesCard : Claim7 := { stood := { row := oscEscapesRow, standIns := [], harness := (true, "ee4617ea5cdab8b000e9a572f5453499305eaf2a41c58e40aa0c7ffc63798fbb"), looks := true }, kinds := [], alts := [], laidByText := true, laidKinds := [.data, .data, .data, .data, .sentinel, .sentinel, .data, .data, .pinned, .pinned], laidTests := true, laidLooks := .later }
def OscEscapesCardSaid : Prop := Claim7.holds Tryd.pinned (.plain (OpenSpec.ofChange oscEscapesSpec)) oscEscapesCard

/-- THE TIED CARD OF 'marqueelaw17.OscCodes'. -/
def oscCodesCard : Claim7 := { stood := { row := oscCodesRow, standIns := [], harness := (true, "ee4617ea5cdab8b000e9a572f5453499305eaf2a41c58e40aa0c7ffc63798fbb"), looks := true }, kinds := [], alts := [], laidByText := true, laidKinds := [.data, .data, .data, .data, .sentinel, .sentinel, .data, .data, .pinned, .pinned], laidTests := true, laidLooks := .later }
def OscCodesCardSaid : Prop := Claim7.holds Tryd.pinned (.plain (OpenSpec.ofChange oscCodesSpec)) oscCodesCard

/-- THE TIED CARD OF 'marqueelaw17.OscShort'. -/
def oscShortCard : Claim7 := { stood := { row := oscShortRow, standIns := [], harness := (true, "ee4617ea5cdab8b000e9a572f5453499305eaf2a41c58e40aa0c7ffc63798fbb"), looks := true }, kinds := [], alts := [], laidByText := true, laidKinds := [.data, .data, .data, .data, .sentinel, .sentinel, .data, .data, .pinned, .pinned], laidTests := true, laidLooks := .later }
def OscShortCardSaid : Prop := Claim7.holds Tryd.pinned (.plain (OpenSpec.ofChange oscShortSpec)) oscShortCard

/-- THE SECOND FORM's CARD OF 'marqueelaw17.OscReads'. -/
def oscReadsUptoCard : Claim7 := { stood := { row := oscReadsUptoRow, standIns := [], harness := (true, "ee4617ea5cdab8b000e9a572f5453499305eaf2a41c58e40aa0c7ffc63798fbb"), looks := true }, kinds := [], alts := [], laidByText := true, laidKinds := [.data, .data, .data, .data, .sentinel, .sentinel, .data, .data, .pinned, .pinned], laidTests := true, laidLooks := .later }
def OscReadsUptoCardSaid : Prop := Claim7.holds Tryd.pinned (.plain (OpenSpec.upto oscReadsSpec)) oscReadsUptoCard

/-- THE SECOND FORM's CARD OF 'marqueelaw17.OscWrites'. -/
def oscWritesUptoCard : Claim7 := { stood := { row := oscWritesUptoRow, standIns := [], harness := (true, "ee4617ea5cdab8b000e9a572f5453499305eaf2a41c58e40aa0c7ffc63798fbb"), looks := true }, kinds := [], alts := [], laidByText := true, laidKinds := [.data, .data, .data, .data, .sentinel, .sentinel, .data, .data, .pinned, .pinned], laidTests := true, laidLooks := .later }
def OscWritesUptoCardSaid : Prop := Claim7.holds Tryd.pinned (.plain (OpenSpec.upto oscWritesSpec)) oscWritesUptoCard

/-- THE SECOND FORM's CARD OF 'marqueelaw17.OscBack'. -/
def oscBackUptoCard : Claim7 := { stood := { row := oscBackUptoRow, standIns := [], harness := (true, "ee4617ea5cdab8b000e9a572f5453499305eaf2a41c58e40aa0c7ffc63798fbb"), looks := true }, kinds := [], alts := [], laidByText := true, laidKinds := [.data, .data, .data, .data, .sentinel, .sentinel, .data, .data, .pinned, .pinned], laidTests := true, laidLooks := .later }
def OscBackUptoCardSaid : Prop := Claim7.holds Tryd.pinned (.plain (OpenSpec.upto oscBackSpec)) oscBackUptoCard

/-- THE SECOND FORM's CARD OF 'marqueelaw17.OscEscapes'. -/
def oscEscapesUptoCard : Claim7 := { stood := { row := oscEscapesUptoRow, standIns := [], harness := (true, "ee4617ea5cdab8b000e9a572f5453499305eaf2a41c58e40aa0c7ffc63798fbb"), looks := true }, kinds := [], alts := [], laidByText := true, laidKinds := [.data, .data, .data, .data, .sentinel, .sentinel, .data, .data, .pinned, .pinned], laidTests := true, laidLooks := .later }
def OscEscapesUptoCardSaid : Prop := Claim7.holds Tryd.pinned (.plain (OpenSpec.upto oscEscapesSpec)) oscEscapesUptoCard

/-- THE SECOND FORM's CARD OF 'marqueelaw17.OscCodes'. -/
def oscCodesUptoCard : Claim7 := { stood := { row := oscCodesUptoRow, standIns := [], harness := (true, "ee4617ea5cdab8b000e9a572f5453499305eaf2a41c58e40aa0c7ffc63798fbb"), looks := true }, kinds := [], alts := [], laidByText := true, laidKinds := [.data, .data, .data, .data, .sentinel, .sentinel, .data, .data, .pinned, .pinned], laidTests := true, laidLooks := .later }
def OscCodesUptoCardSaid : Prop := Claim7.holds Tryd.pinned (.plain (OpenSpec.upto oscCodesSpec)) oscCodesUptoCard

/-- THE SECOND FORM's CARD OF 'marqueelaw17.OscShort'. -/
def oscShortUptoCard : Claim7 := { stood := { row := oscShortUptoRow, standIns := [], harness := (true, "ee4617ea5cdab8b000e9a572f5453499305eaf2a41c58e40aa0c7ffc63798fbb"), looks := true }, kinds := [], alts := [], laidByText := true, laidKinds := [.data, .data, .data, .data, .sentinel, .sentinel, .data, .data, .pinned, .pinned], laidTests := true, laidLooks := .later }
def OscShortUptoCardSaid : Prop := Claim7.holds Tryd.pinned (.plain (OpenSpec.upto oscShortSpec)) oscShortUptoCard
end Rows
end Go.Proofs.YtkkhlmilcdlfoaaDoor
