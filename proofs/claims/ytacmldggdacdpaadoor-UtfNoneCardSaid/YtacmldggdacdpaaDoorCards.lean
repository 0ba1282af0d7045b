/-
  DERIVED. GIVEN WITH THE SEED: THE CARDS: each row of YtacmldggdacdpaaDoorRows.lean that lists a variable, with what it lists TIED to the program's text (the seventh form; the later family's looks); each row that meets fmt, with fmt's text TOLD by the authors' own Lean function (tested against real Go, not proved from fmt's source: count such statements apart). THE CARD IS WHAT COUNTS. Prove the row's statement (the work); the ties are given (YtacmldggdacdpaaDoorTie.lean); close each card by the builder's one call (the guide's Derived/Test/ToyasCard.lean, 'card_holds'). Laid BY PROGRAM, IN A SANDBOX (cutbox-door.mjs). By AI agents, Wed Nov 11 2026. No macro, syntax, notation, axiom, sorry.
-/
import Derived.Test.YtacmldggdacdpaaDoorRows
import GoSem.ClaimSeven
namespace Go.Proofs.YtacmldggdacdpaaDoor
namespace Rows

/-- THE TIED CARD OF 'marqueelaw01.UtfAll'. -/
def utfAllCard : Claim7 := { stood := { row := utfAllRow, standIns := [], harness := (true, "546f5b261d862808f23ab7bd7a905aaa34bfa0069c6c11aa13b8ee6929113adf"), looks := false }, kinds := [], alts := [], laidByText := true, laidKinds := [.data, .pinned], laidTests := true, laidLooks := .later }
def UtfAllCardSaid : Prop := Claim7.holds Tryd.pinned (.plain (OpenSpec.ofChange utfAllSpec)) utfAllCard

/-- THE TIED CARD OF 'marqueelaw01.UtfPuts'. -/
def utfPutsCard : Claim7 := { stood := { row := utfPutsRow, standIns := [], harness := (true, "546f5b261d862808f23ab7bd7a905aaa34bfa0069c6c11aa13b8ee6929113adf"), looks := false }, kinds := [], alts := [], laidByText := true, laidKinds := [.data, .pinned], laidTests := true, laidLooks := .later }
def UtfPutsCardSaid : Prop := Claim7.holds Tryd.pinned (.plain (OpenSpec.ofChange utfPutsSpec)) utfPutsCard

/-- THE TIED CARD OF 'marqueelaw01.UtfSizes'. -/
def utfSizesCard : Claim7 := { stood := { row := utfSizesRow, standIns := [], harness := (true, "546f5b261d862808f23ab7bd7a905aaa34bfa0069c6c11aa13b8ee6929113adf"), looks := false }, kinds := [], alts := [], laidByText := true, laidKinds := [.data, .pinned], laidTests := true, laidLooks := .later }
def UtfSizesCardSaid : Prop := Claim7.holds Tryd.pinned (.plain (OpenSpec.ofChange utfSizesSpec)) utfSizesCard

/-- THE TIED CARD OF 'marqueelaw01.UtfSteps'. -/
def utfStepsCard : Claim7 := { stood := { row := utfStepsRow, standIns := [], harness := (true, "546f5b261d862808f23ab7bd7a905aaa34bfa0069c6c11aa13b8ee6929113adf"), looks := false }, kinds := [], alts := [], laidByText := true, laidKinds := [.data, .pinned], laidTests := true, laidLooks := .later }
def UtfStepsCardSaid : Prop := Claim7.holds Tryd.pinned (.plain (OpenSpec.ofChange utfStepsSpec)) utfStepsCard

/-- THE TIED CARD OF 'marqueelaw01.UtfEnds'. -/
def utfEndsCard : Claim7 := { stood := { row := utfEndsRow, standIns := [], harness := (true, "546f5b261d862808f23ab7bd7a905aaa34bfa0069c6c11aa13b8ee6929113adf"), looks := false }, kinds := [], alts := [], laidByText := true, laidKinds := [.data, .pinned], laidTests := true, laidLooks := .later }
def UtfEndsCardSaid : Prop := Claim7.holds Tryd.pinned (.plain (OpenSpec.ofChange utfEndsSpec)) utfEndsCard

/-- THE TIED CARD OF 'marqueelaw01.UtfJoins'. -/
def utfJoinsCard : Claim7 := { stood := { row := utfJoinsRow, standIns := [], harness := (true, "546f5b261d862808f23ab7bd7a905aaa34bfa0069c6c11aa13b8ee6929113adf"), looks := false }, kinds := [], alts := [], laidByText := true, laidKinds := [.data, .pinned], laidTests := true, laidLooks := .later }
def UtfJoinsCardSaid : Prop := Claim7.holds Tryd.pinned (.plain (OpenSpec.ofChange utfJoinsSpec)) utfJoinsCard

/-- THE TIED CARD OF 'marqueelaw01.UtfNone'. -/
def utfNoneCard : Claim7 := { stood := { row := utfNoneRow, standIns := [], harness := (true, "546f5b261d862808f23ab7bd7a905aaa34bfa0069c6c11aa13b8ee6929113adf"), looks := false }, kinds := [], alts := [], laidByText := true, laidKinds := [.data, .pinned], laidTests := true, laidLooks := .later }
def UtfNoneCardSaid : Prop := Claim7.holds Tryd.pinned (.plain (OpenSpec.ofChange utfNoneSpec)) utfNoneCard

/-- THE TIED CARD OF 'marqueelaw02.WidthOf'. -/
def widthOfCard : Claim7 := { stood := { row := widthOfRow, standIns := [], harness := (true, "546f5b261d862808f23ab7bd7a905aaa34bfa0069c6c11aa13b8ee6929113adf"), looks := false }, kinds := [], alts := [], laidByText := true, laidKinds := [.data, .data], laidTests := true, laidLooks := .later }
def WidthOfCardSaid : Prop := Claim7.holds Tryd.pinned (.plain (OpenSpec.ofChange widthOfSpec)) widthOfCard

/-- THE TIED CARD OF 'marqueelaw02.WidthText'. -/
def widthTextCard : Claim7 := { stood := { row := widthTextRow, standIns := [], harness := (true, "546f5b261d862808f23ab7bd7a905aaa34bfa0069c6c11aa13b8ee6929113adf"), looks := false }, kinds := [], alts := [], laidByText := true, laidKinds := [.data, .data], laidTests := true, laidLooks := .later }
def WidthTextCardSaid : Prop := Claim7.holds Tryd.pinned (.plain (OpenSpec.ofChange widthTextSpec)) widthTextCard

/-- THE TIED CARD OF 'marqueelaw02.WidthClusters'. -/
def widthClustersCard : Claim7 := { stood := { row := widthClustersRow, standIns := [], harness := (true, "546f5b261d862808f23ab7bd7a905aaa34bfa0069c6c11aa13b8ee6929113adf"), looks := false }, kinds := [], alts := [], laidByText := true, laidKinds := [.data, .data], laidTests := true, laidLooks := .later }
def WidthClustersCardSaid : Prop := Claim7.holds Tryd.pinned (.plain (OpenSpec.ofChange widthClustersSpec)) widthClustersCard

/-- THE TIED CARD OF 'marqueelaw02.WidthFits'. -/
def widthFitsCard : Claim7 := { stood := { row := widthFitsRow, standIns := [], harness := (true, "546f5b261d862808f23ab7bd7a905aaa34bfa0069c6c11aa13b8ee6929113adf"), looks := false }, kinds := [], alts := [], laidByText := true, laidKinds := [.data, .data], laidTests := true, laidLooks := .later }
def WidthFitsCardSaid : Prop := Claim7.holds Tryd.pinned (.plain (OpenSpec.ofChange widthFitsSpec)) widthFitsCard

/-- THE TIED CARD OF 'marqueelaw02.WidthGreedy'. -/
def widthGreedyCard : Claim7 := { stood := { row := widthGreedyRow, standIns := [], harness := (true, "546f5b261d862808f23ab7bd7a905aaa34bfa0069c6c11aa13b8ee6929113adf"), looks := false }, kinds := [], alts := [], laidByText := true, laidKinds := [.data, .data], laidTests := true, laidLooks := .later }
def WidthGreedyCardSaid : Prop := Claim7.holds Tryd.pinned (.plain (OpenSpec.ofChange widthGreedySpec)) widthGreedyCard

/-- THE SECOND FORM's CARD OF 'marqueelaw01.UtfAll'. -/
def utfAllUptoCard : Claim7 := { stood := { row := utfAllUptoRow, standIns := [], harness := (true, "546f5b261d862808f23ab7bd7a905aaa34bfa0069c6c11aa13b8ee6929113adf"), looks := false }, kinds := [], alts := [], laidByText := true, laidKinds := [.data, .pinned], laidTests := true, laidLooks := .later }
def UtfAllUptoCardSaid : Prop := Claim7.holds Tryd.pinned (.plain (OpenSpec.upto utfAllSpec)) utfAllUptoCard

/-- THE SECOND FORM's CARD OF 'marqueelaw01.UtfPuts'. -/
def utfPutsUptoCard : Claim7 := { stood := { row := utfPutsUptoRow, standIns := [], harness := (true, "546f5b261d862808f23ab7bd7a905aaa34bfa0069c6c11aa13b8ee6929113adf"), looks := false }, kinds := [], alts := [], laidByText := true, laidKinds := [.data, .pinned], laidTests := true, laidLooks := .later }
def UtfPutsUptoCardSaid : Prop := Claim7.holds Tryd.pinned (.plain (OpenSpec.upto utfPutsSpec)) utfPutsUptoCard

/-- THE SECOND FORM's CARD OF 'marqueelaw01.UtfSizes'. -/
def utfSizesUptoCard : Claim7 := { stood := { row := utfSizesUptoRow, standIns := [], harness := (true, "546f5b261d862808f23ab7bd7a905aaa34bfa0069c6c11aa13b8ee6929113adf"), looks := false }, kinds := [], alts := [], laidByText := true, laidKinds := [.data, .pinned], laidTests := true, laidLooks := .later }
def UtfSizesUptoCardSaid : Prop := Claim7.holds Tryd.pinned (.plain (OpenSpec.upto utfSizesSpec)) utfSizesUptoCard

/-- THE SECOND FORM's CARD OF 'marqueelaw01.UtfSteps'. -/
def utfStepsUptoCard : Claim7 := { stood := { row := utfStepsUptoRow, standIns := [], harness := (true, "546f5b261d862808f23ab7bd7a905aaa34bfa0069c6c11aa13b8ee6929113adf"), looks := false }, kinds := [], alts := [], laidByText := true, laidKinds := [.data, .pinned], laidTests := true, laidLooks := .later }
def UtfStepsUptoCardSaid : Prop := Claim7.holds Tryd.pinned (.plain (OpenSpec.upto utfStepsSpec)) utfStepsUptoCard

/-- THE SECOND FORM's CARD OF 'marqueelaw01.UtfEnds'. -/
def utfEndsUptoCard : Claim7 := { stood := { row := utfEndsUptoRow, standIns := [], harness := (true, "546f5b261d862808f23ab7bd7a905aaa34bfa0069c6c11aa13b8ee6929113adf"), looks := false }, kinds := [], alts := [], laidByText := true, laidKinds := [.data, .pinned], laidTests := true, laidLooks := .later }
def UtfEndsUptoCardSaid : Prop := Claim7.holds Tryd.pinned (.plain (OpenSpec.upto utfEndsSpec)) utfEndsUptoCard

/-- THE SECOND FORM's CARD OF 'marqueelaw01.UtfJoins'. -/
def utfJoinsUptoCard : Claim7 := { stood := { row := utfJoinsUptoRow, standIns := [], harness := (true, "546f5b261d862808f23ab7bd7a905aaa34bfa0069c6c11aa13b8ee6929113adf"), looks := false }, kinds := [], alts := [], laidByText := true, laidKinds := [.data, .pinned], laidTests := true, laidLooks := .later }
def UtfJoinsUptoCardSaid : Prop := Claim7.holds Tryd.pinned (.plain (OpenSpec.upto utfJoinsSpec)) utfJoinsUptoCard

/-- THE SECOND FORM's CARD OF 'marqueelaw01.UtfNone'. -/
def utfNoneUptoCard : Claim7 := { stood := { row := utfNoneUptoRow, standIns := [], harness := (true, "546f5b261d862808f23ab7bd7a905aaa34bfa0069c6c11aa13b8ee6929113adf"), looks := false }, kinds := [], alts := [], laidByText := true, laidKinds := [.data, .pinned], laidTests := true, laidLooks := .later }
def UtfNoneUptoCardSaid : Prop := Claim7.holds Tryd.pinned (.plain (OpenSpec.upto utfNoneSpec)) utfNoneUptoCard

/-- THE SECOND FORM's CARD OF 'marqueelaw02.WidthOf'. -/
def widthOfUptoCard : Claim7 := { stood := { row := widthOfUptoRow, standIns := [], harness := (true, "546f5b261d862808f23ab7bd7a905aaa34bfa0069c6c11aa13b8ee6929113adf"), looks := false }, kinds := [], alts := [], laidByText := true, laidKinds := [.data, .data], laidTests := true, laidLooks := .later }
def WidthOfUptoCardSaid : Prop := Claim7.holds Tryd.pinned (.plain (OpenSpec.upto widthOfSpec)) widthOfUptoCard

/-- THE SECOND FORM's CARD OF 'marqueelaw02.WidthText'. -/
def widthTextUptoCard : Claim7 := { stood := { row := widthTextUptoRow, standIns := [], harness := (true, "546f5b261d862808f23ab7bd7a905aaa34bfa0069c6c11aa13b8ee6929113adf"), looks := false }, kinds := [], alts := [], laidByText := true, laidKinds := [.data, .data], laidTests := true, laidLooks := .later }
def WidthTextUptoCardSaid : Prop := Claim7.holds Tryd.pinned (.plain (OpenSpec.upto widthTextSpec)) widthTextUptoCard

/-- THE SECOND FORM's CARD OF 'marqueelaw02.WidthClusters'. -/
def widthClustersUptoCard : Claim7 := { stood := { row := widthClustersUptoRow, standIns := [], harness := (true, "546f5b261d862808f23ab7bd7a905aaa34bfa0069c6c11aa13b8ee6929113adf"), looks := false }, kinds := [], alts := [], laidByText := true, laidKinds := [.data, .data], laidTests := true, laidLooks := .later }
def WidthClustersUptoCardSaid : Prop := Claim7.holds Tryd.pinned (.plain (OpenSpec.upto widthClustersSpec)) widthClustersUptoCard

/-- THE SECOND FORM's CARD OF 'marqueelaw02.WidthFits'. -/
def widthFitsUptoCard : Claim7 := { stood := { row := widthFitsUptoRow, standIns := [], harness := (true, "546f5b261d862808f23ab7bd7a905aaa34bfa0069c6c11aa13b8ee6929113adf"), looks := false }, kinds := [], alts := [], laidByText := true, laidKinds := [.data, .data], laidTests := true, laidLooks := .later }
def WidthFitsUptoCardSaid : Prop := Claim7.holds Tryd.pinned (.plain (OpenSpec.upto widthFitsSpec)) widthFitsUptoCard

/-- THE SECOND FORM's CARD OF 'marqueelaw02.WidthGreedy'. -/
def widthGreedyUptoCard : Claim7 := { stood := { row := widthGreedyUptoRow, standIns := [], harness := (true, "546f5b261d862808f23ab7bd7a905aaa34bfa0069c6c11aa13b8ee6929113adf"), looks := false }, kinds := [], alts := [], laidByText := true, laidKinds := [.data, .data], laidTests := true, laidLooks := .later }
def WidthGreedyUptoCardSaid : Prop := Claim7.holds Tryd.pinned (.plain (OpenSpec.upto widthGreedySpec)) widthGreedyUptoCard
end Rows
end Go.Proofs.YtacmldggdacdpaaDoor
