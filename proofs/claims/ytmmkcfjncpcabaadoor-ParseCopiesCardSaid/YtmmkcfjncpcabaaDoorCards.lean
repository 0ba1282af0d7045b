/-
  DERIVED. GIVEN WITH THE SEED: THE CARDS: each row of YtmmkcfjncpcabaaDoorRows.lean that lists a variable, with what it lists TIED to the program's text (the seventh form; the later family's looks); each row that meets fmt, with fmt's text TOLD by the authors' own Lean function (tested against real Go, not proved from fmt's source: count such statements apart). THE CARD IS WHAT COUNTS. Prove the row's statement (the work); the ties are given (YtmmkcfjncpcabaaDoorTie.lean); close each card by the builder's one call (the guide's Derived/Test/ToyasCard.lean, 'card_holds'). Laid BY PROGRAM, IN A SANDBOX (cutbox-door.mjs). By AI agents, Wed Nov 11 2026. No macro, syntax, notation, axiom, sorry.
-/
import Derived.Test.YtmmkcfjncpcabaaDoorRows
import GoSem.ClaimSeven
namespace Go.Proofs.YtmmkcfjncpcabaaDoor
namespace Rows

/-- THE TIED CARD OF 'marqueelaw04.ParseAll'. -/
def parseAllCard : Claim7 := { stood := { row := parseAllRow, standIns := [], harness := (true, "e08278d2791e6677ce30cbd1e4932f16fcb76004450bc7fe4f1db46cb4989094"), looks := false }, kinds := [], alts := [], laidByText := true, laidKinds := [.data, .pinned], laidTests := true, laidLooks := .later }
def ParseAllCardSaid : Prop := Claim7.holds Tryd.pinned (.plain (OpenSpec.ofChange parseAllSpec)) parseAllCard

/-- THE TIED CARD OF 'marqueelaw04.ParseSteps'. -/
def parseStepsCard : Claim7 := { stood := { row := parseStepsRow, standIns := [], harness := (true, "e08278d2791e6677ce30cbd1e4932f16fcb76004450bc7fe4f1db46cb4989094"), looks := false }, kinds := [], alts := [], laidByText := true, laidKinds := [.data, .pinned], laidTests := true, laidLooks := .later }
def ParseStepsCardSaid : Prop := Claim7.holds Tryd.pinned (.plain (OpenSpec.ofChange parseStepsSpec)) parseStepsCard

/-- THE TIED CARD OF 'marqueelaw04.ParseCuts'. -/
def parseCutsCard : Claim7 := { stood := { row := parseCutsRow, standIns := [], harness := (true, "e08278d2791e6677ce30cbd1e4932f16fcb76004450bc7fe4f1db46cb4989094"), looks := false }, kinds := [], alts := [], laidByText := true, laidKinds := [.data, .pinned], laidTests := true, laidLooks := .later }
def ParseCutsCardSaid : Prop := Claim7.holds Tryd.pinned (.plain (OpenSpec.ofChange parseCutsSpec)) parseCutsCard

/-- THE TIED CARD OF 'marqueelaw04.ParseHolds'. -/
def parseHoldsCard : Claim7 := { stood := { row := parseHoldsRow, standIns := [], harness := (true, "e08278d2791e6677ce30cbd1e4932f16fcb76004450bc7fe4f1db46cb4989094"), looks := false }, kinds := [], alts := [], laidByText := true, laidKinds := [.data, .pinned], laidTests := true, laidLooks := .later }
def ParseHoldsCardSaid : Prop := Claim7.holds Tryd.pinned (.plain (OpenSpec.ofChange parseHoldsSpec)) parseHoldsCard

/-- THE TIED CARD OF 'marqueelaw04.ParseCancels'. -/
def parseCancelsCard : Claim7 := { stood := { row := parseCancelsRow, standIns := [], harness := (true, "e08278d2791e6677ce30cbd1e4932f16fcb76004450bc7fe4f1db46cb4989094"), looks := false }, kinds := [], alts := [], laidByText := true, laidKinds := [.data, .pinned], laidTests := true, laidLooks := .later }
def ParseCancelsCardSaid : Prop := Claim7.holds Tryd.pinned (.plain (OpenSpec.ofChange parseCancelsSpec)) parseCancelsCard

/-- THE TIED CARD OF 'marqueelaw04.ParseCopies'. -/
def parseCopiesCard : Claim7 := { stood := { row := parseCopiesRow, standIns := [], harness := (true, "e08278d2791e6677ce30cbd1e4932f16fcb76004450bc7fe4f1db46cb4989094"), looks := false }, kinds := [], alts := [], laidByText := true, laidKinds := [.data, .pinned], laidTests := true, laidLooks := .later }
def ParseCopiesCardSaid : Prop := Claim7.holds Tryd.pinned (.plain (OpenSpec.ofChange parseCopiesSpec)) parseCopiesCard

/-- THE TIED CARD OF 'marqueelaw04.ParseNone'. -/
def parseNoneCard : Claim7 := { stood := { row := parseNoneRow, standIns := [], harness := (true, "e08278d2791e6677ce30cbd1e4932f16fcb76004450bc7fe4f1db46cb4989094"), looks := false }, kinds := [], alts := [], laidByText := true, laidKinds := [.data, .pinned], laidTests := true, laidLooks := .later }
def ParseNoneCardSaid : Prop := Claim7.holds Tryd.pinned (.plain (OpenSpec.ofChange parseNoneSpec)) parseNoneCard

/-- THE SECOND FORM's CARD OF 'marqueelaw04.ParseAll'. -/
def parseAllUptoCard : Claim7 := { stood := { row := parseAllUptoRow, standIns := [], harness := (true, "e08278d2791e6677ce30cbd1e4932f16fcb76004450bc7fe4f1db46cb4989094"), looks := false }, kinds := [], alts := [], laidByText := true, laidKinds := [.data, .pinned], laidTests := true, laidLooks := .later }
def ParseAllUptoCardSaid : Prop := Claim7.holds Tryd.pinned (.plain (OpenSpec.upto parseAllSpec)) parseAllUptoCard

/-- THE SECOND FORM's CARD OF 'marqueelaw04.ParseSteps'. -/
def parseStepsUptoCard : Claim7 := { stood := { row := parseStepsUptoRow, standIns := [], harness := (true, "e08278d2791e6677ce30cbd1e4932f16fcb76004450bc7fe4f1db46cb4989094"), looks := false }, kinds := [], alts := [], laidByText := true, laidKinds := [.data, .pinned], laidTests := true, laidLooks := .later }
def ParseStepsUptoCardSaid : Prop := Claim7.holds Tryd.pinned (.plain (OpenSpec.upto parseStepsSpec)) parseStepsUptoCard

/-- THE SECOND FORM's CARD OF 'marqueelaw04.ParseCuts'. -/
def parseCutsUptoCard : Claim7 := { stood := { row := parseCutsUptoRow, standIns := [], harness := (true, "e08278d2791e6677ce30cbd1e4932f16fcb76004450bc7fe4f1db46cb4989094"), looks := false }, kinds := [], alts := [], laidByText := true, laidKinds := [.data, .pinned], laidTests := true, laidLooks := .later }
def ParseCutsUptoCardSaid : Prop := Claim7.holds Tryd.pinned (.plain (OpenSpec.upto parseCutsSpec)) parseCutsUptoCard

/-- THE SECOND FORM's CARD OF 'marqueelaw04.ParseHolds'. -/
def parseHoldsUptoCard : Claim7 := { stood := { row := parseHoldsUptoRow, standIns := [], harness := (true, "e08278d2791e6677ce30cbd1e4932f16fcb76004450bc7fe4f1db46cb4989094"), looks := false }, kinds := [], alts := [], laidByText := true, laidKinds := [.data, .pinned], laidTests := true, laidLooks := .later }
def ParseHoldsUptoCardSaid : Prop := Claim7.holds Tryd.pinned (.plain (OpenSpec.upto parseHoldsSpec)) parseHoldsUptoCard

/-- THE SECOND FORM's CARD OF 'marqueelaw04.ParseCancels'. -/
def parseCancelsUptoCard : Claim7 := { stood := { row := parseCancelsUptoRow, standIns := [], harness := (true, "e08278d2791e6677ce30cbd1e4932f16fcb76004450bc7fe4f1db46cb4989094"), looks := false }, kinds := [], alts := [], laidByText := true, laidKinds := [.data, .pinned], laidTests := true, laidLooks := .later }
def ParseCancelsUptoCardSaid : Prop := Claim7.holds Tryd.pinned (.plain (OpenSpec.upto parseCancelsSpec)) parseCancelsUptoCard

/-- THE SECOND FORM's CARD OF 'marqueelaw04.ParseCopies'. -/
def parseCopiesUptoCard : Claim7 := { stood := { row := parseCopiesUptoRow, standIns := [], harness := (true, "e08278d2791e6677ce30cbd1e4932f16fcb76004450bc7fe4f1db46cb4989094"), looks := false }, kinds := [], alts := [], laidByText := true, laidKinds := [.data, .pinned], laidTests := true, laidLooks := .later }
def ParseCopiesUptoCardSaid : Prop := Claim7.holds Tryd.pinned (.plain (OpenSpec.upto parseCopiesSpec)) parseCopiesUptoCard

/-- THE SECOND FORM's CARD OF 'marqueelaw04.ParseNone'. -/
def parseNoneUptoCard : Claim7 := { stood := { row := parseNoneUptoRow, standIns := [], harness := (true, "e08278d2791e6677ce30cbd1e4932f16fcb76004450bc7fe4f1db46cb4989094"), looks := false }, kinds := [], alts := [], laidByText := true, laidKinds := [.data, .pinned], laidTests := true, laidLooks := .later }
def ParseNoneUptoCardSaid : Prop := Claim7.holds Tryd.pinned (.plain (OpenSpec.upto parseNoneSpec)) parseNoneUptoCard
end Rows
end Go.Proofs.YtmmkcfjncpcabaaDoor
