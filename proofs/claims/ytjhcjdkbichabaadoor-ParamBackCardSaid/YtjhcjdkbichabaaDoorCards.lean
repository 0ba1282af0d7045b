/-
  DERIVED. GIVEN WITH THE SEED: THE CARDS: each row of YtjhcjdkbichabaaDoorRows.lean that lists a variable, with what it lists TIED to the program's text (the seventh form; the later family's looks); each row that meets fmt, with fmt's text TOLD by the authors' own Lean function (tested against real Go, not proved from fmt's source: count such statements apart). THE CARD IS WHAT COUNTS. Prove the row's statement (the work); the ties are given (YtjhcjdkbichabaaDoorTie.lean); close each card by the builder's one call (the guide's Derived/Test/ToyasCard.lean, 'card_holds'). Laid BY PROGRAM, IN A SANDBOX (cutbox-door.mjs). By AI agents, Wed Nov 11 2026. No macro, syntax, notation, axiom, sorry.
-/
import Derived.Test.YtjhcjdkbichabaaDoorRows
import GoSem.ClaimSeven
namespace Go.Proofs.YtjhcjdkbichabaaDoor
namespace Rows

/-- THE TIED CARD OF 'marqueelaw03.ParamParses'. -/
def paramParsesCard : Claim7 := { stood := { row := paramParsesRow, standIns := [], harness := (true, "de74e9ed921b70f5a4c9d7d8b43e9ca3e381c6599d29608522efeb30b10ccda3"), looks := false }, kinds := [], alts := [], laidByText := true, laidKinds := [.data, .pinned], laidTests := true, laidLooks := .later }
def ParamParsesCardSaid : Prop := Claim7.holds Tryd.pinned (.plain (OpenSpec.ofChange paramParsesSpec)) paramParsesCard

/-- THE TIED CARD OF 'marqueelaw03.ParamCleans'. -/
def paramCleansCard : Claim7 := { stood := { row := paramCleansRow, standIns := [], harness := (true, "de74e9ed921b70f5a4c9d7d8b43e9ca3e381c6599d29608522efeb30b10ccda3"), looks := false }, kinds := [], alts := [], laidByText := true, laidKinds := [.data, .pinned], laidTests := true, laidLooks := .later }
def ParamCleansCardSaid : Prop := Claim7.holds Tryd.pinned (.plain (OpenSpec.ofChange paramCleansSpec)) paramCleansCard

/-- THE TIED CARD OF 'marqueelaw03.ParamBack'. -/
def paramBackCard : Claim7 := { stood := { row := paramBackRow, standIns := [], harness := (true, "de74e9ed921b70f5a4c9d7d8b43e9ca3e381c6599d29608522efeb30b10ccda3"), looks := false }, kinds := [], alts := [], laidByText := true, laidKinds := [.data, .data, .data, .data, .pinned], laidTests := true, laidLooks := .later }
def ParamBackCardSaid : Prop := Claim7.holds Tryd.pinned (.plain (OpenSpec.ofChange paramBackSpec)) paramBackCard

/-- THE TIED CARD OF 'marqueelaw03.ParamGets'. -/
def paramGetsCard : Claim7 := { stood := { row := paramGetsRow, standIns := [], harness := (true, "de74e9ed921b70f5a4c9d7d8b43e9ca3e381c6599d29608522efeb30b10ccda3"), looks := false }, kinds := [], alts := [], laidByText := true, laidKinds := [.data, .pinned], laidTests := true, laidLooks := .later }
def ParamGetsCardSaid : Prop := Claim7.holds Tryd.pinned (.plain (OpenSpec.ofChange paramGetsSpec)) paramGetsCard

/-- THE TIED CARD OF 'marqueelaw03.ParamJoins'. -/
def paramJoinsCard : Claim7 := { stood := { row := paramJoinsRow, standIns := [], harness := (true, "de74e9ed921b70f5a4c9d7d8b43e9ca3e381c6599d29608522efeb30b10ccda3"), looks := false }, kinds := [], alts := [], laidByText := true, laidKinds := [.data, .pinned], laidTests := true, laidLooks := .later }
def ParamJoinsCardSaid : Prop := Claim7.holds Tryd.pinned (.plain (OpenSpec.ofChange paramJoinsSpec)) paramJoinsCard

/-- THE SECOND FORM's CARD OF 'marqueelaw03.ParamParses'. -/
def paramParsesUptoCard : Claim7 := { stood := { row := paramParsesUptoRow, standIns := [], harness := (true, "de74e9ed921b70f5a4c9d7d8b43e9ca3e381c6599d29608522efeb30b10ccda3"), looks := false }, kinds := [], alts := [], laidByText := true, laidKinds := [.data, .pinned], laidTests := true, laidLooks := .later }
def ParamParsesUptoCardSaid : Prop := Claim7.holds Tryd.pinned (.plain (OpenSpec.upto paramParsesSpec)) paramParsesUptoCard

/-- THE SECOND FORM's CARD OF 'marqueelaw03.ParamCleans'. -/
def paramCleansUptoCard : Claim7 := { stood := { row := paramCleansUptoRow, standIns := [], harness := (true, "de74e9ed921b70f5a4c9d7d8b43e9ca3e381c6599d29608522efeb30b10ccda3"), looks := false }, kinds := [], alts := [], laidByText := true, laidKinds := [.data, .pinned], laidTests := true, laidLooks := .later }
def ParamCleansUptoCardSaid : Prop := Claim7.holds Tryd.pinned (.plain (OpenSpec.upto paramCleansSpec)) paramCleansUptoCard

/-- THE SECOND FORM's CARD OF 'marqueelaw03.ParamBack'. -/
def paramBackUptoCard : Claim7 := { stood := { row := paramBackUptoRow, standIns := [], harness := (true, "de74e9ed921b70f5a4c9d7d8b43e9ca3e381c6599d29608522efeb30b10ccda3"), looks := false }, kinds := [], alts := [], laidByText := true, laidKinds := [.data, .data, .data, .data, .pinned], laidTests := true, laidLooks := .later }
def ParamBackUptoCardSaid : Prop := Claim7.holds Tryd.pinned (.plain (OpenSpec.upto paramBackSpec)) paramBackUptoCard

/-- THE SECOND FORM's CARD OF 'marqueelaw03.ParamGets'. -/
def paramGetsUptoCard : Claim7 := { stood := { row := paramGetsUptoRow, standIns := [], harness := (true, "de74e9ed921b70f5a4c9d7d8b43e9ca3e381c6599d29608522efeb30b10ccda3"), looks := false }, kinds := [], alts := [], laidByText := true, laidKinds := [.data, .pinned], laidTests := true, laidLooks := .later }
def ParamGetsUptoCardSaid : Prop := Claim7.holds Tryd.pinned (.plain (OpenSpec.upto paramGetsSpec)) paramGetsUptoCard

/-- THE SECOND FORM's CARD OF 'marqueelaw03.ParamJoins'. -/
def paramJoinsUptoCard : Claim7 := { stood := { row := paramJoinsUptoRow, standIns := [], harness := (true, "de74e9ed921b70f5a4c9d7d8b43e9ca3e381c6599d29608522efeb30b10ccda3"), looks := false }, kinds := [], alts := [], laidByText := true, laidKinds := [.data, .pinned], laidTests := true, laidLooks := .later }
def ParamJoinsUptoCardSaid : Prop := Claim7.holds Tryd.pinned (.plain (OpenSpec.upto paramJoinsSpec)) paramJoinsUptoCard
end Rows
end Go.Proofs.YtjhcjdkbichabaaDoor
