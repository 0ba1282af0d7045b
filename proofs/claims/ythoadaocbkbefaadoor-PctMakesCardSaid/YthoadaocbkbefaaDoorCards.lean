/-
  DERIVED. GIVEN WITH THE SEED: THE CARDS: each row of YthoadaocbkbefaaDoorRows.lean that lists a variable, with what it lists TIED to the program's text (the seventh form; the later family's looks); each row that meets fmt, with fmt's text TOLD by the authors' own Lean function (tested against real Go, not proved from fmt's source: count such statements apart). THE CARD IS WHAT COUNTS. Prove the row's statement (the work); the ties are given (YthoadaocbkbefaaDoorTie.lean); close each card by the builder's one call (the guide's Derived/Test/ToyasCard.lean, 'card_holds'). Laid BY PROGRAM, IN A SANDBOX (cutbox-door.mjs). By AI agents, Wed Nov 11 2026. No macro, syntax, notation, axiom, sorry.
-/
import Derived.Test.YthoadaocbkbefaaDoorRows
import GoSem.ClaimSeven
namespace Go.Proofs.YthoadaocbkbefaaDoor
namespace Rows

/-- THE TIED CARD OF 'marqueelaw16.PctLays'. -/
def pctLaysCard : Claim7 := { stood := { row := pctLaysRow, standIns := [], harness := (true, "33e61478b2226c102d1a44178eaad2b97bf6729391972f9330e3d3e73b29ae4c"), looks := true }, kinds := [], alts := [], laidByText := true, laidKinds := [.data, .data, .data, .data, .sentinel, .sentinel, .data, .data, .pinned, .pinned], laidTests := true, laidLooks := .later }
def PctLaysCardSaid : Prop := Claim7.holds Tryd.pinned (.plain (OpenSpec.ofChange pctLaysSpec)) pctLaysCard

/-- THE TIED CARD OF 'marqueelaw16.PctTakes'. -/
def pctTakesCard : Claim7 := { stood := { row := pctTakesRow, standIns := [], harness := (true, "33e61478b2226c102d1a44178eaad2b97bf6729391972f9330e3d3e73b29ae4c"), looks := true }, kinds := [], alts := [], laidByText := true, laidKinds := [.data, .data, .data, .data, .sentinel, .sentinel, .data, .data, .pinned, .pinned], laidTests := true, laidLooks := .later }
def PctTakesCardSaid : Prop := Claim7.holds Tryd.pinned (.plain (OpenSpec.ofChange pctTakesSpec)) pctTakesCard

/-- THE TIED CARD OF 'marqueelaw16.PctFiles'. -/
def pctFilesCard : Claim7 := { stood := { row := pctFilesRow, standIns := [], harness := (true, "33e61478b2226c102d1a44178eaad2b97bf6729391972f9330e3d3e73b29ae4c"), looks := true }, kinds := [], alts := [], laidByText := true, laidKinds := [.data, .data, .data, .data, .sentinel, .sentinel, .data, .data, .pinned, .pinned], laidTests := true, laidLooks := .later }
def PctFilesCardSaid : Prop := Claim7.holds Tryd.pinned (.plain (OpenSpec.ofChange pctFilesSpec)) pctFilesCard

/-- THE TIED CARD OF 'marqueelaw16.PctMakes'. -/
def pctMakesCard : Claim7 := { stood := { row := pctMakesRow, standIns := [], harness := (true, "33e61478b2226c102d1a44178eaad2b97bf6729391972f9330e3d3e73b29ae4c"), looks := true }, kinds := [], alts := [], laidByText := true, laidKinds := [.data, .data, .data, .data, .sentinel, .sentinel, .data, .data, .pinned, .pinned], laidTests := true, laidLooks := .later }
def PctMakesCardSaid : Prop := Claim7.holds Tryd.pinned (.plain (OpenSpec.ofChange pctMakesSpec)) pctMakesCard

/-- THE TIED CARD OF 'marqueelaw16.PctJoins'. -/
def pctJoinsCard : Claim7 := { stood := { row := pctJoinsRow, standIns := [], harness := (true, "33e61478b2226c102d1a44178eaad2b97bf6729391972f9330e3d3e73b29ae4c"), looks := true }, kinds := [], alts := [], laidByText := true, laidKinds := [.data, .data, .data, .data, .sentinel, .sentinel, .data, .data, .pinned, .pinned], laidTests := true, laidLooks := .later }
def PctJoinsCardSaid : Prop := Claim7.holds Tryd.pinned (.plain (OpenSpec.ofChange pctJoinsSpec)) pctJoinsCard

/-- THE SECOND FORM's CARD OF 'marqueelaw16.PctLays'. -/
def pctLaysUptoCard : Claim7 := { stood := { row := pctLaysUptoRow, standIns := [], harness := (true, "33e61478b2226c102d1a44178eaad2b97bf6729391972f9330e3d3e73b29ae4c"), looks := true }, kinds := [], alts := [], laidByText := true, laidKinds := [.data, .data, .data, .data, .sentinel, .sentinel, .data, .data, .pinned, .pinned], laidTests := true, laidLooks := .later }
def PctLaysUptoCardSaid : Prop := Claim7.holds Tryd.pinned (.plain (OpenSpec.upto pctLaysSpec)) pctLaysUptoCard

/-- THE SECOND FORM's CARD OF 'marqueelaw16.PctTakes'. -/
def pctTakesUptoCard : Claim7 := { stood := { row := pctTakesUptoRow, standIns := [], harness := (true, "33e61478b2226c102d1a44178eaad2b97bf6729391972f9330e3d3e73b29ae4c"), looks := true }, kinds := [], alts := [], laidByText := true, laidKinds := [.data, .data, .data, .data, .sentinel, .sentinel, .data, .data, .pinned, .pinned], laidTests := true, laidLooks := .later }
def PctTakesUptoCardSaid : Prop := Claim7.holds Tryd.pinned (.plain (OpenSpec.upto pctTakesSpec)) pctTakesUptoCard

/-- THE SECOND FORM's CARD OF 'marqueelaw16.PctFiles'. -/
def pctFilesUptoCard : Claim7 := { stood := { row := pctFilesUptoRow, standIns := [], harness := (true, "33e61478b2226c102d1a44178eaad2b97bf6729391972f9330e3d3e73b29ae4c"), looks := true }, kinds := [], alts := [], laidByText := true, laidKinds := [.data, .data, .data, .data, .sentinel, .sentinel, .data, .data, .pinned, .pinned], laidTests := true, laidLooks := .later }
def PctFilesUptoCardSaid : Prop := Claim7.holds Tryd.pinned (.plain (OpenSpec.upto pctFilesSpec)) pctFilesUptoCard

/-- THE SECOND FORM's CARD OF 'marqueelaw16.PctMakes'. -/
def pctMakesUptoCard : Claim7 := { stood := { row := pctMakesUptoRow, standIns := [], harness := (true, "33e61478b2226c102d1a44178eaad2b97bf6729391972f9330e3d3e73b29ae4c"), looks := true }, kinds := [], alts := [], laidByText := true, laidKinds := [.data, .data, .data, .data, .sentinel, .sentinel, .data, .data, .pinned, .pinned], laidTests := true, laidLooks := .later }
def PctMakesUptoCardSaid : Prop := Claim7.holds Tryd.pinned (.plain (OpenSpec.upto pctMakesSpec)) pctMakesUptoCard

/-- THE SECOND FORM's CARD OF 'marqueelaw16.PctJoins'. -/
def pctJoinsUptoCard : Claim7 := { stood := { row := pctJoinsUptoRow, standIns := [], harness := (true, "33e61478b2226c102d1a44178eaad2b97bf6729391972f9330e3d3e73b29ae4c"), looks := true }, kinds := [], alts := [], laidByText := true, laidKinds := [.data, .data, .data, .data, .sentinel, .sentinel, .data, .data, .pinned, .pinned], laidTests := true, laidLooks := .later }
def PctJoinsUptoCardSaid : Prop := Claim7.holds Tryd.pinned (.plain (OpenSpec.upto pctJoinsSpec)) pctJoinsUptoCard
end Rows
end Go.Proofs.YthoadaocbkbefaaDoor
