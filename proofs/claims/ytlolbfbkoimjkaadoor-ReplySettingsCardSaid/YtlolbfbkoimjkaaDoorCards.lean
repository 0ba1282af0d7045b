/-
  DERIVED. GIVEN WITH THE SEED: THE CARDS: each row of YtlolbfbkoimjkaaDoorRows.lean that lists a variable, with what it lists TIED to the program's text (the seventh form; the later family's looks); each row that meets fmt, with fmt's text TOLD by the authors' own Lean function (tested against real Go, not proved from fmt's source: count such statements apart). THE CARD IS WHAT COUNTS. Prove the row's statement (the work); the ties are given (YtlolbfbkoimjkaaDoorTie.lean); close each card by the builder's one call (the guide's Derived/Test/ToyasCard.lean, 'card_holds'). Laid BY PROGRAM, IN A SANDBOX (cutbox-door.mjs). By AI agents, Wed Nov 11 2026. No macro, syntax, notation, axiom, sorry.
-/
import Derived.Test.YtlolbfbkoimjkaaDoorRows
import GoSem.ClaimSeven
namespace Go.Proofs.YtlolbfbkoimjkaaDoor
namespace Rows

/-- THE TIED CARD OF 'marqueelaw15.ReplyPlaces'. -/
def replyPlacesCard : Claim7 := { stood := { row := replyPlacesRow, standIns := [], harness := (true, "d32b289d7b8a5f9244057bf35ca87999240feebc0c18917ada6c7d9d115843a7"), looks := false }, kinds := [], alts := [], laidByText := true, laidKinds := [.data, .data, .data], laidTests := true, laidLooks := .later }
def ReplyPlacesCardSaid : Prop := Claim7.holds Tryd.pinned (.plain (OpenSpec.ofChange replyPlacesSpec)) replyPlacesCard

/-- THE TIED CARD OF 'marqueelaw15.ReplySettings'. -/
def replySettingsCard : Claim7 := { stood := { row := replySettingsRow, standIns := [], harness := (true, "d32b289d7b8a5f9244057bf35ca87999240feebc0c18917ada6c7d9d115843a7"), looks := false }, kinds := [], alts := [], laidByText := true, laidKinds := [.data, .data, .data, .data], laidTests := true, laidLooks := .later }
def ReplySettingsCardSaid : Prop := Claim7.holds Tryd.pinned (.plain (OpenSpec.ofChange replySettingsSpec)) replySettingsCard

/-- THE TIED CARD OF 'marqueelaw15.ReplyReads'. -/
def replyReadsCard : Claim7 := { stood := { row := replyReadsRow, standIns := [], harness := (true, "d32b289d7b8a5f9244057bf35ca87999240feebc0c18917ada6c7d9d115843a7"), looks := false }, kinds := [], alts := [], laidByText := true, laidKinds := [.data, .data, .data, .data, .pinned], laidTests := true, laidLooks := .later }
def ReplyReadsCardSaid : Prop := Claim7.holds Tryd.pinned (.plain (OpenSpec.ofChange replyReadsSpec)) replyReadsCard

/-- THE TIED CARD OF 'marqueelaw15.ReplyBack'. -/
def replyBackCard : Claim7 := { stood := { row := replyBackRow, standIns := [], harness := (true, "d32b289d7b8a5f9244057bf35ca87999240feebc0c18917ada6c7d9d115843a7"), looks := false }, kinds := [], alts := [], laidByText := true, laidKinds := [.data, .data, .data, .data, .pinned], laidTests := true, laidLooks := .later }
def ReplyBackCardSaid : Prop := Claim7.holds Tryd.pinned (.plain (OpenSpec.ofChange replyBackSpec)) replyBackCard

/-- THE TIED CARD OF 'marqueelaw15.ReplyApart'. -/
def replyApartCard : Claim7 := { stood := { row := replyApartRow, standIns := [], harness := (true, "d32b289d7b8a5f9244057bf35ca87999240feebc0c18917ada6c7d9d115843a7"), looks := false }, kinds := [], alts := [], laidByText := true, laidKinds := [.data, .data, .data], laidTests := true, laidLooks := .later }
def ReplyApartCardSaid : Prop := Claim7.holds Tryd.pinned (.plain (OpenSpec.ofChange replyApartSpec)) replyApartCard

/-- THE SECOND FORM's CARD OF 'marqueelaw15.ReplyPlaces'. -/
def replyPlacesUptoCard : Claim7 := { stood := { row := replyPlacesUptoRow, standIns := [], harness := (true, "d32b289d7b8a5f9244057bf35ca87999240feebc0c18917ada6c7d9d115843a7"), looks := false }, kinds := [], alts := [], laidByText := true, laidKinds := [.data, .data, .data], laidTests := true, laidLooks := .later }
def ReplyPlacesUptoCardSaid : Prop := Claim7.holds Tryd.pinned (.plain (OpenSpec.upto replyPlacesSpec)) replyPlacesUptoCard

/-- THE SECOND FORM's CARD OF 'marqueelaw15.ReplySettings'. -/
def replySettingsUptoCard : Claim7 := { stood := { row := replySettingsUptoRow, standIns := [], harness := (true, "d32b289d7b8a5f9244057bf35ca87999240feebc0c18917ada6c7d9d115843a7"), looks := false }, kinds := [], alts := [], laidByText := true, laidKinds := [.data, .data, .data, .data], laidTests := true, laidLooks := .later }
def ReplySettingsUptoCardSaid : Prop := Claim7.holds Tryd.pinned (.plain (OpenSpec.upto replySettingsSpec)) replySettingsUptoCard

/-- THE SECOND FORM's CARD OF 'marqueelaw15.ReplyReads'. -/
def replyReadsUptoCard : Claim7 := { stood := { row := replyReadsUptoRow, standIns := [], harness := (true, "d32b289d7b8a5f9244057bf35ca87999240feebc0c18917ada6c7d9d115843a7"), looks := false }, kinds := [], alts := [], laidByText := true, laidKinds := [.data, .data, .data, .data, .pinned], laidTests := true, laidLooks := .later }
def ReplyReadsUptoCardSaid : Prop := Claim7.holds Tryd.pinned (.plain (OpenSpec.upto replyReadsSpec)) replyReadsUptoCard

/-- THE SECOND FORM's CARD OF 'marqueelaw15.ReplyBack'. -/
def replyBackUptoCard : Claim7 := { stood := { row := replyBackUptoRow, standIns := [], harness := (true, "d32b289d7b8a5f9244057bf35ca87999240feebc0c18917ada6c7d9d115843a7"), looks := false }, kinds := [], alts := [], laidByText := true, laidKinds := [.data, .data, .data, .data, .pinned], laidTests := true, laidLooks := .later }
def ReplyBackUptoCardSaid : Prop := Claim7.holds Tryd.pinned (.plain (OpenSpec.upto replyBackSpec)) replyBackUptoCard

/-- THE SECOND FORM's CARD OF 'marqueelaw15.ReplyApart'. -/
def replyApartUptoCard : Claim7 := { stood := { row := replyApartUptoRow, standIns := [], harness := (true, "d32b289d7b8a5f9244057bf35ca87999240feebc0c18917ada6c7d9d115843a7"), looks := false }, kinds := [], alts := [], laidByText := true, laidKinds := [.data, .data, .data], laidTests := true, laidLooks := .later }
def ReplyApartUptoCardSaid : Prop := Claim7.holds Tryd.pinned (.plain (OpenSpec.upto replyApartSpec)) replyApartUptoCard
end Rows
end Go.Proofs.YtlolbfbkoimjkaaDoor
