/-
  DERIVED. GIVEN WITH THE SEED: THE CARDS: each row of YtjdpkjdnamfloaaDoorRows.lean that lists a variable, with what it lists TIED to the program's text (the seventh form; the later family's looks); each row that meets fmt, with fmt's text TOLD by the authors' own Lean function (tested against real Go, not proved from fmt's source: count such statements apart). THE CARD IS WHAT COUNTS. Prove the row's statement (the work); the ties are given (YtjdpkjdnamfloaaDoorTie.lean); close each card by the builder's one call (the guide's Derived/Test/ToyasCard.lean, 'card_holds'). Laid BY PROGRAM, IN A SANDBOX (cutbox-door.mjs). By AI agents, Wed Nov 11 2026. No macro, syntax, notation, axiom, sorry.
-/
import Derived.Test.YtjdpkjdnamfloaaDoorRows
import GoSem.ClaimSeven
namespace Go.Proofs.YtjdpkjdnamfloaaDoor
namespace Rows

/-- THE TIED CARD OF 'marqueelaw06.CharsMaps'. -/
def charsMapsCard : Claim7 := { stood := { row := charsMapsRow, standIns := [], harness := (true, "00d778155b9b5aca7cbfe94c91942d0f1be81f0340d788cecf7195e4f0b3b984"), looks := false }, kinds := [], alts := [], laidByText := true, laidKinds := [.data], laidTests := true, laidLooks := .later }
def CharsMapsCardSaid : Prop := Claim7.holds Tryd.pinned (.plain (OpenSpec.ofChange charsMapsSpec)) charsMapsCard

/-- THE TIED CARD OF 'marqueelaw06.CharsNames'. -/
def charsNamesCard : Claim7 := { stood := { row := charsNamesRow, standIns := [], harness := (true, "00d778155b9b5aca7cbfe94c91942d0f1be81f0340d788cecf7195e4f0b3b984"), looks := false }, kinds := [], alts := [], laidByText := true, laidKinds := [.data], laidTests := true, laidLooks := .later }
def CharsNamesCardSaid : Prop := Claim7.holds Tryd.pinned (.plain (OpenSpec.ofChange charsNamesSpec)) charsNamesCard

/-- THE TIED CARD OF 'marqueelaw06.CharsLines'. -/
def charsLinesCard : Claim7 := { stood := { row := charsLinesRow, standIns := [], harness := (true, "00d778155b9b5aca7cbfe94c91942d0f1be81f0340d788cecf7195e4f0b3b984"), looks := false }, kinds := [], alts := [], laidByText := true, laidKinds := [.data], laidTests := true, laidLooks := .later }
def CharsLinesCardSaid : Prop := Claim7.holds Tryd.pinned (.plain (OpenSpec.ofChange charsLinesSpec)) charsLinesCard

/-- THE TIED CARD OF 'marqueelaw06.CharsOnce'. -/
def charsOnceCard : Claim7 := { stood := { row := charsOnceRow, standIns := [], harness := (true, "00d778155b9b5aca7cbfe94c91942d0f1be81f0340d788cecf7195e4f0b3b984"), looks := false }, kinds := [], alts := [], laidByText := true, laidKinds := [.data], laidTests := true, laidLooks := .later }
def CharsOnceCardSaid : Prop := Claim7.holds Tryd.pinned (.plain (OpenSpec.ofChange charsOnceSpec)) charsOnceCard

/-- THE TIED CARD OF 'marqueelaw06.CharsAll'. -/
def charsAllCard : Claim7 := { stood := { row := charsAllRow, standIns := [], harness := (true, "00d778155b9b5aca7cbfe94c91942d0f1be81f0340d788cecf7195e4f0b3b984"), looks := false }, kinds := [], alts := [], laidByText := true, laidKinds := [.data], laidTests := true, laidLooks := .later }
def CharsAllCardSaid : Prop := Claim7.holds Tryd.pinned (.plain (OpenSpec.ofChange charsAllSpec)) charsAllCard

/-- THE SECOND FORM's CARD OF 'marqueelaw06.CharsMaps'. -/
def charsMapsUptoCard : Claim7 := { stood := { row := charsMapsUptoRow, standIns := [], harness := (true, "00d778155b9b5aca7cbfe94c91942d0f1be81f0340d788cecf7195e4f0b3b984"), looks := false }, kinds := [], alts := [], laidByText := true, laidKinds := [.data], laidTests := true, laidLooks := .later }
def CharsMapsUptoCardSaid : Prop := Claim7.holds Tryd.pinned (.plain (OpenSpec.upto charsMapsSpec)) charsMapsUptoCard

/-- THE SECOND FORM's CARD OF 'marqueelaw06.CharsNames'. -/
def charsNamesUptoCard : Claim7 := { stood := { row := charsNamesUptoRow, standIns := [], harness := (true, "00d778155b9b5aca7cbfe94c91942d0f1be81f0340d788cecf7195e4f0b3b984"), looks := false }, kinds := [], alts := [], laidByText := true, laidKinds := [.data], laidTests := true, laidLooks := .later }
def CharsNamesUptoCardSaid : Prop := Claim7.holds Tryd.pinned (.plain (OpenSpec.upto charsNamesSpec)) charsNamesUptoCard

/-- THE SECOND FORM's CARD OF 'marqueelaw06.CharsLines'. -/
def charsLinesUptoCard : Claim7 := { stood := { row := charsLinesUptoRow, standIns := [], harness := (true, "00d778155b9b5aca7cbfe94c91942d0f1be81f0340d788cecf7195e4f0b3b984"), looks := false }, kinds := [], alts := [], laidByText := true, laidKinds := [.data], laidTests := true, laidLooks := .later }
def CharsLinesUptoCardSaid : Prop := Claim7.holds Tryd.pinned (.plain (OpenSpec.upto charsLinesSpec)) charsLinesUptoCard

/-- THE SECOND FORM's CARD OF 'marqueelaw06.CharsOnce'. -/
def charsOnceUptoCard : Claim7 := { stood := { row := charsOnceUptoRow, standIns := [], harness := (true, "00d778155b9b5aca7cbfe94c91942d0f1be81f0340d788cecf7195e4f0b3b984"), looks := false }, kinds := [], alts := [], laidByText := true, laidKinds := [.data], laidTests := true, laidLooks := .later }
def CharsOnceUptoCardSaid : Prop := Claim7.holds Tryd.pinned (.plain (OpenSpec.upto charsOnceSpec)) charsOnceUptoCard

/-- THE SECOND FORM's CARD OF 'marqueelaw06.CharsAll'. -/
def charsAllUptoCard : Claim7 := { stood := { row := charsAllUptoRow, standIns := [], harness := (true, "00d778155b9b5aca7cbfe94c91942d0f1be81f0340d788cecf7195e4f0b3b984"), looks := false }, kinds := [], alts := [], laidByText := true, laidKinds := [.data], laidTests := true, laidLooks := .later }
def CharsAllUptoCardSaid : Prop := Claim7.holds Tryd.pinned (.plain (OpenSpec.upto charsAllSpec)) charsAllUptoCard
end Rows
end Go.Proofs.YtjdpkjdnamfloaaDoor
