/-
  NARROWER THAN 'FOR EVERY INPUT', by the rows' own cells (each row's printed sentence says how): UtfAll: laid · UtfPuts: laid · UtfSizes: laid · UtfSteps: laid · UtfEnds: laid · UtfJoins: laid · UtfNone: laid · WidthOf: laid · WidthText: laid · WidthClusters: laid · WidthFits: laid · WidthGreedy: laid.
  DERIVED. THE GIVEN ROWS OF THIS SEAT. 12 by the template 'for every input the law returns true; each argument reads behind the call as it read before'; 0 by the template 'total and deterministic' (their statements: YtacmldggdacdpaaDoorTotals.lean).
  GIVEN WITH THE SEED: the statements are not yours to turn. If you find one false, say at which input.
  Laid BY PROGRAM, IN A SANDBOX (cutbox-rows.mjs): the forced cells as the released guide's own fill.sh prints them over the translation a4d592c281773d33… (all of the seat's roots in one cut). By AI agents, Wed Nov 11 2026. No macro, syntax, notation, axiom, sorry.
-/
import Derived.Test.YtacmldggdacdpaaDoorChecked
import GoSem.PinnedTables
import GoSem.Claim
import GoSem.ClaimJoined
import GoSem.ClaimMapViews
import Derived.JoinedTies
import Derived.KernelRfl
namespace Go.Proofs.YtacmldggdacdpaaDoor
/- THE CELL 'sum', in the pinned program and in every row, IS THE sha256 OF THE DUMP (.gsa) THAT YtacmldggdacdpaaDoorProg.lean LOADS. Nothing in Lean hashes anything: it is a label: what it is worth is what the hold of that sum in a sandbox is worth. -/
noncomputable def Tryd.pinned : Pinned := { name := "ytacmldggdacdpaadoor", sum := "a4d592c281773d337b31869d20caca500c852cc0b20810d8063a56210d3a472c", checked := Tryd.checked }
namespace Rows
def none {H : Type} : Left H := { results := [], args := [] }

/- WHAT THE LISTED PACKAGE-LEVEL VARIABLES READ AS WHEN THE CALL BEGINS. Each datum BY PROGRAM (the guide's laid-datum.mjs) off the statement by which the dump's own 'gosem.cut.vars' lays the variable. In a bare row this is a premise. The card (YtacmldggdacdpaaDoorCards.lean) ties it to the program's text. -/
def laid_unicode_utf8_acceptRanges {H : Type} : DataW H := .agg [.agg [.lit (.int .u8 128), .lit (.int .u8 191)], .agg [.lit (.int .u8 160), .lit (.int .u8 191)], .agg [.lit (.int .u8 128), .lit (.int .u8 159)], .agg [.lit (.int .u8 144), .lit (.int .u8 191)], .agg [.lit (.int .u8 128), .lit (.int .u8 143)], .agg [.lit (.int .u8 0), .lit (.int .u8 0)], .agg [.lit (.int .u8 0), .lit (.int .u8 0)], .agg [.lit (.int .u8 0), .lit (.int .u8 0)], .agg [.lit (.int .u8 0), .lit (.int .u8 0)], .agg [.lit (.int .u8 0), .lit (.int .u8 0)], .agg [.lit (.int .u8 0), .lit (.int .u8 0)], .agg [.lit (.int .u8 0), .lit (.int .u8 0)], .agg [.lit (.int .u8 0), .lit (.int .u8 0)], .agg [.lit (.int .u8 0), .lit (.int .u8 0)], .agg [.lit (.int .u8 0), .lit (.int .u8 0)], .agg [.lit (.int .u8 0), .lit (.int .u8 0)]]
/-- One of Go's own tables, pinned by name: the form's constant. -/
def laid_unicode_utf8_first : DataW Unit := Go.Pinned.utf8First
def laid_marquee_width_marks {H : Type} : DataW H := .agg [.agg [.lit (.int .i32 768), .lit (.int .i32 879)], .agg [.lit (.int .i32 1155), .lit (.int .i32 1161)], .agg [.lit (.int .i32 1425), .lit (.int .i32 1469)], .agg [.lit (.int .i32 1552), .lit (.int .i32 1562)], .agg [.lit (.int .i32 1611), .lit (.int .i32 1631)], .agg [.lit (.int .i32 2304), .lit (.int .i32 2306)], .agg [.lit (.int .i32 2364), .lit (.int .i32 2364)], .agg [.lit (.int .i32 2369), .lit (.int .i32 2376)], .agg [.lit (.int .i32 3633), .lit (.int .i32 3633)], .agg [.lit (.int .i32 3636), .lit (.int .i32 3642)], .agg [.lit (.int .i32 6832), .lit (.int .i32 6911)], .agg [.lit (.int .i32 7616), .lit (.int .i32 7679)], .agg [.lit (.int .i32 8203), .lit (.int .i32 8207)], .agg [.lit (.int .i32 8400), .lit (.int .i32 8447)], .agg [.lit (.int .i32 8288), .lit (.int .i32 8292)], .agg [.lit (.int .i32 65024), .lit (.int .i32 65039)], .agg [.lit (.int .i32 65056), .lit (.int .i32 65071)], .agg [.lit (.int .i32 65279), .lit (.int .i32 65279)], .agg [.lit (.int .i32 917760), .lit (.int .i32 917999)]]
def laid_marquee_width_wides {H : Type} : DataW H := .agg [.agg [.lit (.int .i32 4352), .lit (.int .i32 4447)], .agg [.lit (.int .i32 8986), .lit (.int .i32 8987)], .agg [.lit (.int .i32 9001), .lit (.int .i32 9002)], .agg [.lit (.int .i32 9193), .lit (.int .i32 9196)], .agg [.lit (.int .i32 9725), .lit (.int .i32 9726)], .agg [.lit (.int .i32 9748), .lit (.int .i32 9749)], .agg [.lit (.int .i32 11904), .lit (.int .i32 12350)], .agg [.lit (.int .i32 12353), .lit (.int .i32 13311)], .agg [.lit (.int .i32 13312), .lit (.int .i32 19903)], .agg [.lit (.int .i32 19968), .lit (.int .i32 40959)], .agg [.lit (.int .i32 40960), .lit (.int .i32 42191)], .agg [.lit (.int .i32 43360), .lit (.int .i32 43391)], .agg [.lit (.int .i32 44032), .lit (.int .i32 55203)], .agg [.lit (.int .i32 63744), .lit (.int .i32 64255)], .agg [.lit (.int .i32 65072), .lit (.int .i32 65135)], .agg [.lit (.int .i32 65280), .lit (.int .i32 65376)], .agg [.lit (.int .i32 65504), .lit (.int .i32 65510)], .agg [.lit (.int .i32 127744), .lit (.int .i32 128591)], .agg [.lit (.int .i32 128640), .lit (.int .i32 128767)], .agg [.lit (.int .i32 129280), .lit (.int .i32 129535)], .agg [.lit (.int .i32 131072), .lit (.int .i32 196605)], .agg [.lit (.int .i32 196608), .lit (.int .i32 262141)]]

/-- 'marqueelaw01.UtfAll': WHATEVER THE INPUT: true; the input reads as it did. -/
def utfAllSpec : ChangeSpec := { name := "utfAll", fn := fun _ => fun
  | [d] => { results := [.lit (.bool true)], args := [d] }
  | _ => none }
def utfAllRow : OpenClaim := { program := "ytacmldggdacdpaadoor", sum := "a4d592c281773d337b31869d20caca500c852cc0b20810d8063a56210d3a472c", func := "marquee/marqueelaw01.UtfAll", spec := "utfAll", unfollowed := true, recurses := true, named := ["unicode/utf8.first", "unicode/utf8.acceptRanges"], apart := false, laid := [("unicode/utf8.acceptRanges", laid_unicode_utf8_acceptRanges), ("unicode/utf8.first", laid_unicode_utf8_first)] }
def UtfAllSaid : Prop := utfAllRow.holds Tryd.pinned (OpenSpec.ofChange utfAllSpec)

/-- ITS FALSE NEIGHBOUR: 'it returns false'. Refute it at one input. -/
def utfAllWrong : ChangeSpec := { name := "utfAll", fn := fun _ => fun
  | [d] => { results := [.lit (.bool false)], args := [d] }
  | _ => none }
def UtfAllWrongFalsely : Prop := utfAllRow.holds Tryd.pinned (OpenSpec.ofChange utfAllWrong)

/-- 'marqueelaw01.UtfPuts': WHATEVER THE INPUT: true; the input reads as it did. -/
def utfPutsSpec : ChangeSpec := { name := "utfPuts", fn := fun _ => fun
  | [d] => { results := [.lit (.bool true)], args := [d] }
  | _ => none }
def utfPutsRow : OpenClaim := { program := "ytacmldggdacdpaadoor", sum := "a4d592c281773d337b31869d20caca500c852cc0b20810d8063a56210d3a472c", func := "marquee/marqueelaw01.UtfPuts", spec := "utfPuts", unfollowed := true, recurses := true, named := ["unicode/utf8.first", "unicode/utf8.acceptRanges"], apart := false, laid := [("unicode/utf8.acceptRanges", laid_unicode_utf8_acceptRanges), ("unicode/utf8.first", laid_unicode_utf8_first)] }
def UtfPutsSaid : Prop := utfPutsRow.holds Tryd.pinned (OpenSpec.ofChange utfPutsSpec)

/-- ITS FALSE NEIGHBOUR: 'it returns false'. Refute it at one input. -/
def utfPutsWrong : ChangeSpec := { name := "utfPuts", fn := fun _ => fun
  | [d] => { results := [.lit (.bool false)], args := [d] }
  | _ => none }
def UtfPutsWrongFalsely : Prop := utfPutsRow.holds Tryd.pinned (OpenSpec.ofChange utfPutsWrong)

/-- 'marqueelaw01.UtfSizes': WHATEVER THE INPUT: true; the input reads as it did. -/
def utfSizesSpec : ChangeSpec := { name := "utfSizes", fn := fun _ => fun
  | [d] => { results := [.lit (.bool true)], args := [d] }
  | _ => none }
def utfSizesRow : OpenClaim := { program := "ytacmldggdacdpaadoor", sum := "a4d592c281773d337b31869d20caca500c852cc0b20810d8063a56210d3a472c", func := "marquee/marqueelaw01.UtfSizes", spec := "utfSizes", unfollowed := true, recurses := true, named := ["unicode/utf8.first", "unicode/utf8.acceptRanges"], apart := false, laid := [("unicode/utf8.acceptRanges", laid_unicode_utf8_acceptRanges), ("unicode/utf8.first", laid_unicode_utf8_first)] }
def UtfSizesSaid : Prop := utfSizesRow.holds Tryd.pinned (OpenSpec.ofChange utfSizesSpec)

/-- ITS FALSE NEIGHBOUR: 'it returns false'. Refute it at one input. -/
def utfSizesWrong : ChangeSpec := { name := "utfSizes", fn := fun _ => fun
  | [d] => { results := [.lit (.bool false)], args := [d] }
  | _ => none }
def UtfSizesWrongFalsely : Prop := utfSizesRow.holds Tryd.pinned (OpenSpec.ofChange utfSizesWrong)

/-- 'marqueelaw01.UtfSteps': WHATEVER THE INPUT: true; the input reads as it did. -/
def utfStepsSpec : ChangeSpec := { name := "utfSteps", fn := fun _ => fun
  | [d] => { results := [.lit (.bool true)], args := [d] }
  | _ => none }
def utfStepsRow : OpenClaim := { program := "ytacmldggdacdpaadoor", sum := "a4d592c281773d337b31869d20caca500c852cc0b20810d8063a56210d3a472c", func := "marquee/marqueelaw01.UtfSteps", spec := "utfSteps", unfollowed := true, recurses := true, named := ["unicode/utf8.first", "unicode/utf8.acceptRanges"], apart := false, laid := [("unicode/utf8.acceptRanges", laid_unicode_utf8_acceptRanges), ("unicode/utf8.first", laid_unicode_utf8_first)] }
def UtfStepsSaid : Prop := utfStepsRow.holds Tryd.pinned (OpenSpec.ofChange utfStepsSpec)

/-- ITS FALSE NEIGHBOUR: 'it returns false'. Refute it at one input. -/
def utfStepsWrong : ChangeSpec := { name := "utfSteps", fn := fun _ => fun
  | [d] => { results := [.lit (.bool false)], args := [d] }
  | _ => none }
def UtfStepsWrongFalsely : Prop := utfStepsRow.holds Tryd.pinned (OpenSpec.ofChange utfStepsWrong)

/-- 'marqueelaw01.UtfEnds': WHATEVER THE INPUT: true; the input reads as it did. -/
def utfEndsSpec : ChangeSpec := { name := "utfEnds", fn := fun _ => fun
  | [d1, d2] => { results := [.lit (.bool true)], args := [d1, d2] }
  | _ => none }
def utfEndsRow : OpenClaim := { program := "ytacmldggdacdpaadoor", sum := "a4d592c281773d337b31869d20caca500c852cc0b20810d8063a56210d3a472c", func := "marquee/marqueelaw01.UtfEnds", spec := "utfEnds", unfollowed := true, recurses := true, named := ["unicode/utf8.first", "unicode/utf8.acceptRanges"], apart := false, laid := [("unicode/utf8.acceptRanges", laid_unicode_utf8_acceptRanges), ("unicode/utf8.first", laid_unicode_utf8_first)] }
def UtfEndsSaid : Prop := utfEndsRow.holds Tryd.pinned (OpenSpec.ofChange utfEndsSpec)

/-- ITS FALSE NEIGHBOUR: 'it returns false'. Refute it at one input. -/
def utfEndsWrong : ChangeSpec := { name := "utfEnds", fn := fun _ => fun
  | [d1, d2] => { results := [.lit (.bool false)], args := [d1, d2] }
  | _ => none }
def UtfEndsWrongFalsely : Prop := utfEndsRow.holds Tryd.pinned (OpenSpec.ofChange utfEndsWrong)

/-- 'marqueelaw01.UtfJoins': WHATEVER THE INPUT: true; the input reads as it did. -/
def utfJoinsSpec : ChangeSpec := { name := "utfJoins", fn := fun _ => fun
  | [d1, d2] => { results := [.lit (.bool true)], args := [d1, d2] }
  | _ => none }
def utfJoinsRow : OpenClaim := { program := "ytacmldggdacdpaadoor", sum := "a4d592c281773d337b31869d20caca500c852cc0b20810d8063a56210d3a472c", func := "marquee/marqueelaw01.UtfJoins", spec := "utfJoins", unfollowed := true, recurses := true, named := ["unicode/utf8.first", "unicode/utf8.acceptRanges"], apart := false, laid := [("unicode/utf8.acceptRanges", laid_unicode_utf8_acceptRanges), ("unicode/utf8.first", laid_unicode_utf8_first)] }
def UtfJoinsSaid : Prop := utfJoinsRow.holds Tryd.pinned (OpenSpec.ofChange utfJoinsSpec)

/-- ITS FALSE NEIGHBOUR: 'it returns false'. Refute it at one input. -/
def utfJoinsWrong : ChangeSpec := { name := "utfJoins", fn := fun _ => fun
  | [d1, d2] => { results := [.lit (.bool false)], args := [d1, d2] }
  | _ => none }
def UtfJoinsWrongFalsely : Prop := utfJoinsRow.holds Tryd.pinned (OpenSpec.ofChange utfJoinsWrong)

/-- 'marqueelaw01.UtfNone': WHATEVER THE INPUT: true; the input reads as it did. -/
def utfNoneSpec : ChangeSpec := { name := "utfNone", fn := fun _ => fun
  | [d] => { results := [.lit (.bool true)], args := [d] }
  | _ => none }
def utfNoneRow : OpenClaim := { program := "ytacmldggdacdpaadoor", sum := "a4d592c281773d337b31869d20caca500c852cc0b20810d8063a56210d3a472c", func := "marquee/marqueelaw01.UtfNone", spec := "utfNone", unfollowed := true, recurses := true, named := ["unicode/utf8.first", "unicode/utf8.acceptRanges"], apart := false, laid := [("unicode/utf8.acceptRanges", laid_unicode_utf8_acceptRanges), ("unicode/utf8.first", laid_unicode_utf8_first)] }
def UtfNoneSaid : Prop := utfNoneRow.holds Tryd.pinned (OpenSpec.ofChange utfNoneSpec)

/-- ITS FALSE NEIGHBOUR: 'it returns false'. Refute it at one input. -/
def utfNoneWrong : ChangeSpec := { name := "utfNone", fn := fun _ => fun
  | [d] => { results := [.lit (.bool false)], args := [d] }
  | _ => none }
def UtfNoneWrongFalsely : Prop := utfNoneRow.holds Tryd.pinned (OpenSpec.ofChange utfNoneWrong)

/-- 'marqueelaw02.WidthOf': WHATEVER THE INPUT: true; the input reads as it did. -/
def widthOfSpec : ChangeSpec := { name := "widthOf", fn := fun _ => fun
  | [d] => { results := [.lit (.bool true)], args := [d] }
  | _ => none }
def widthOfRow : OpenClaim := { program := "ytacmldggdacdpaadoor", sum := "a4d592c281773d337b31869d20caca500c852cc0b20810d8063a56210d3a472c", func := "marquee/marqueelaw02.WidthOf", spec := "widthOf", unfollowed := true, recurses := true, named := ["marquee/width.marks", "marquee/width.wides"], apart := false, laid := [("marquee/width.marks", laid_marquee_width_marks), ("marquee/width.wides", laid_marquee_width_wides)] }
def WidthOfSaid : Prop := widthOfRow.holds Tryd.pinned (OpenSpec.ofChange widthOfSpec)

/-- ITS FALSE NEIGHBOUR: 'it returns false'. Refute it at one input. -/
def widthOfWrong : ChangeSpec := { name := "widthOf", fn := fun _ => fun
  | [d] => { results := [.lit (.bool false)], args := [d] }
  | _ => none }
def WidthOfWrongFalsely : Prop := widthOfRow.holds Tryd.pinned (OpenSpec.ofChange widthOfWrong)

/-- 'marqueelaw02.WidthText': WHATEVER THE INPUT: true; the input reads as it did. -/
def widthTextSpec : ChangeSpec := { name := "widthText", fn := fun _ => fun
  | [d] => { results := [.lit (.bool true)], args := [d] }
  | _ => none }
def widthTextRow : OpenClaim := { program := "ytacmldggdacdpaadoor", sum := "a4d592c281773d337b31869d20caca500c852cc0b20810d8063a56210d3a472c", func := "marquee/marqueelaw02.WidthText", spec := "widthText", unfollowed := true, recurses := true, named := ["marquee/width.marks", "marquee/width.wides"], apart := false, laid := [("marquee/width.marks", laid_marquee_width_marks), ("marquee/width.wides", laid_marquee_width_wides)] }
def WidthTextSaid : Prop := widthTextRow.holds Tryd.pinned (OpenSpec.ofChange widthTextSpec)

/-- ITS FALSE NEIGHBOUR: 'it returns false'. Refute it at one input. -/
def widthTextWrong : ChangeSpec := { name := "widthText", fn := fun _ => fun
  | [d] => { results := [.lit (.bool false)], args := [d] }
  | _ => none }
def WidthTextWrongFalsely : Prop := widthTextRow.holds Tryd.pinned (OpenSpec.ofChange widthTextWrong)

/-- 'marqueelaw02.WidthClusters': WHATEVER THE INPUT: true; the input reads as it did. -/
def widthClustersSpec : ChangeSpec := { name := "widthClusters", fn := fun _ => fun
  | [d] => { results := [.lit (.bool true)], args := [d] }
  | _ => none }
def widthClustersRow : OpenClaim := { program := "ytacmldggdacdpaadoor", sum := "a4d592c281773d337b31869d20caca500c852cc0b20810d8063a56210d3a472c", func := "marquee/marqueelaw02.WidthClusters", spec := "widthClusters", unfollowed := true, recurses := true, named := ["marquee/width.marks", "marquee/width.wides"], apart := false, laid := [("marquee/width.marks", laid_marquee_width_marks), ("marquee/width.wides", laid_marquee_width_wides)] }
def WidthClustersSaid : Prop := widthClustersRow.holds Tryd.pinned (OpenSpec.ofChange widthClustersSpec)

/-- ITS FALSE NEIGHBOUR: 'it returns false'. Refute it at one input. -/
def widthClustersWrong : ChangeSpec := { name := "widthClusters", fn := fun _ => fun
  | [d] => { results := [.lit (.bool false)], args := [d] }
  | _ => none }
def WidthClustersWrongFalsely : Prop := widthClustersRow.holds Tryd.pinned (OpenSpec.ofChange widthClustersWrong)

/-- 'marqueelaw02.WidthFits': WHATEVER THE INPUT: true; the input reads as it did. -/
def widthFitsSpec : ChangeSpec := { name := "widthFits", fn := fun _ => fun
  | [d1, d2] => { results := [.lit (.bool true)], args := [d1, d2] }
  | _ => none }
def widthFitsRow : OpenClaim := { program := "ytacmldggdacdpaadoor", sum := "a4d592c281773d337b31869d20caca500c852cc0b20810d8063a56210d3a472c", func := "marquee/marqueelaw02.WidthFits", spec := "widthFits", unfollowed := true, recurses := true, named := ["marquee/width.marks", "marquee/width.wides"], apart := false, laid := [("marquee/width.marks", laid_marquee_width_marks), ("marquee/width.wides", laid_marquee_width_wides)] }
def WidthFitsSaid : Prop := widthFitsRow.holds Tryd.pinned (OpenSpec.ofChange widthFitsSpec)

/-- ITS FALSE NEIGHBOUR: 'it returns false'. Refute it at one input. -/
def widthFitsWrong : ChangeSpec := { name := "widthFits", fn := fun _ => fun
  | [d1, d2] => { results := [.lit (.bool false)], args := [d1, d2] }
  | _ => none }
def WidthFitsWrongFalsely : Prop := widthFitsRow.holds Tryd.pinned (OpenSpec.ofChange widthFitsWrong)

/-- 'marqueelaw02.WidthGreedy': WHATEVER THE INPUT: true; the input reads as it did. -/
def widthGreedySpec : ChangeSpec := { name := "widthGreedy", fn := fun _ => fun
  | [d1, d2] => { results := [.lit (.bool true)], args := [d1, d2] }
  | _ => none }
def widthGreedyRow : OpenClaim := { program := "ytacmldggdacdpaadoor", sum := "a4d592c281773d337b31869d20caca500c852cc0b20810d8063a56210d3a472c", func := "marquee/marqueelaw02.WidthGreedy", spec := "widthGreedy", unfollowed := true, recurses := true, named := ["marquee/width.marks", "marquee/width.wides"], apart := false, laid := [("marquee/width.marks", laid_marquee_width_marks), ("marquee/width.wides", laid_marquee_width_wides)] }
def WidthGreedySaid : Prop := widthGreedyRow.holds Tryd.pinned (OpenSpec.ofChange widthGreedySpec)

/-- ITS FALSE NEIGHBOUR: 'it returns false'. Refute it at one input. -/
def widthGreedyWrong : ChangeSpec := { name := "widthGreedy", fn := fun _ => fun
  | [d1, d2] => { results := [.lit (.bool false)], args := [d1, d2] }
  | _ => none }
def WidthGreedyWrongFalsely : Prop := widthGreedyRow.holds Tryd.pinned (OpenSpec.ofChange widthGreedyWrong)

/- THE SECOND FORM. 'bulk': how many values and letters a reading holds, each counted each time it is reached (what is shared counts as often as it is met; a slice's spare places count too). A statement '..UptoSaid' is the law's where the arguments, and the package variables that the reading takes, are together of bulk at most 1048576: NARROWER than '..Said'. Prove '..Said' where nothing that the law and all that it calls make is longer than what came in: it says more and counts as full. Else prove '..UptoSaid'. A law counts once. -/
mutual
def uptoBulk {H : Type} : DataW H → Nat
  | .lit (.string bytes) => bytes.length + 1
  | .lit _ => 1
  | .nil => 1
  | .ptr d => uptoBulk d + 1
  | .slice elems spare => uptoBulkAll elems + uptoBulkAll spare + 1
  | .agg parts => uptoBulkAll parts + 1
  | .iface _ d => uptoBulk d + 1
  | .map entries => uptoBulkEntries entries + 1
  | .held _ => 1
def uptoBulkAll {H : Type} : List (DataW H) → Nat
  | [] => 0
  | d :: r => uptoBulk d + uptoBulkAll r
def uptoBulkEntries {H : Type} : List (Lit × DataW H) → Nat
  | [] => 0
  | x :: r => uptoBulkEntry x + uptoBulkEntries r
def uptoBulkEntry {H : Type} : Lit × DataW H → Nat
  | (.string bytes, d) => bytes.length + uptoBulk d + 1
  | (_, d) => uptoBulk d + 1
 end
def uptoSmall : (H : Type) → List (DataW H) → Bool := fun _ ds => decide (uptoBulkAll ds ≤ 1048576)
def OpenSpec.upto (s : _root_.Go.ChangeSpec) : _root_.Go.OpenSpec := { _root_.Go.OpenSpec.ofChange s with cond := some uptoSmall }

/-- 'marqueelaw01.UtfAll', WHERE WHAT IT READS IS OF BULK AT MOST 1048576: true; the input reads as it did. -/
def utfAllUptoRow : OpenClaim := { program := "ytacmldggdacdpaadoor", sum := "a4d592c281773d337b31869d20caca500c852cc0b20810d8063a56210d3a472c", func := "marquee/marqueelaw01.UtfAll", spec := "utfAll", unfollowed := true, recurses := true, named := ["unicode/utf8.first", "unicode/utf8.acceptRanges"], apart := false, laid := [("unicode/utf8.acceptRanges", laid_unicode_utf8_acceptRanges), ("unicode/utf8.first", laid_unicode_utf8_first)], narrowed := true }
def UtfAllUptoSaid : Prop := utfAllUptoRow.holds Tryd.pinned (OpenSpec.upto utfAllSpec)

/-- 'marqueelaw01.UtfPuts', WHERE WHAT IT READS IS OF BULK AT MOST 1048576: true; the input reads as it did. -/
def utfPutsUptoRow : OpenClaim := { program := "ytacmldggdacdpaadoor", sum := "a4d592c281773d337b31869d20caca500c852cc0b20810d8063a56210d3a472c", func := "marquee/marqueelaw01.UtfPuts", spec := "utfPuts", unfollowed := true, recurses := true, named := ["unicode/utf8.first", "unicode/utf8.acceptRanges"], apart := false, laid := [("unicode/utf8.acceptRanges", laid_unicode_utf8_acceptRanges), ("unicode/utf8.first", laid_unicode_utf8_first)], narrowed := true }
def UtfPutsUptoSaid : Prop := utfPutsUptoRow.holds Tryd.pinned (OpenSpec.upto utfPutsSpec)

/-- 'marqueelaw01.UtfSizes', WHERE WHAT IT READS IS OF BULK AT MOST 1048576: true; the input reads as it did. -/
def utfSizesUptoRow : OpenClaim := { program := "ytacmldggdacdpaadoor", sum := "a4d592c281773d337b31869d20caca500c852cc0b20810d8063a56210d3a472c", func := "marquee/marqueelaw01.UtfSizes", spec := "utfSizes", unfollowed := true, recurses := true, named := ["unicode/utf8.first", "unicode/utf8.acceptRanges"], apart := false, laid := [("unicode/utf8.acceptRanges", laid_unicode_utf8_acceptRanges), ("unicode/utf8.first", laid_unicode_utf8_first)], narrowed := true }
def UtfSizesUptoSaid : Prop := utfSizesUptoRow.holds Tryd.pinned (OpenSpec.upto utfSizesSpec)

/-- 'marqueelaw01.UtfSteps', WHERE WHAT IT READS IS OF BULK AT MOST 1048576: true; the input reads as it did. -/
def utfStepsUptoRow : OpenClaim := { program := "ytacmldggdacdpaadoor", sum := "a4d592c281773d337b31869d20caca500c852cc0b20810d8063a56210d3a472c", func := "marquee/marqueelaw01.UtfSteps", spec := "utfSteps", unfollowed := true, recurses := true, named := ["unicode/utf8.first", "unicode/utf8.acceptRanges"], apart := false, laid := [("unicode/utf8.acceptRanges", laid_unicode_utf8_acceptRanges), ("unicode/utf8.first", laid_unicode_utf8_first)], narrowed := true }
def UtfStepsUptoSaid : Prop := utfStepsUptoRow.holds Tryd.pinned (OpenSpec.upto utfStepsSpec)

/-- 'marqueelaw01.UtfEnds', WHERE WHAT IT READS IS OF BULK AT MOST 1048576: true; the input reads as it did. -/
def utfEndsUptoRow : OpenClaim := { program := "ytacmldggdacdpaadoor", sum := "a4d592c281773d337b31869d20caca500c852cc0b20810d8063a56210d3a472c", func := "marquee/marqueelaw01.UtfEnds", spec := "utfEnds", unfollowed := true, recurses := true, named := ["unicode/utf8.first", "unicode/utf8.acceptRanges"], apart := false, laid := [("unicode/utf8.acceptRanges", laid_unicode_utf8_acceptRanges), ("unicode/utf8.first", laid_unicode_utf8_first)], narrowed := true }
def UtfEndsUptoSaid : Prop := utfEndsUptoRow.holds Tryd.pinned (OpenSpec.upto utfEndsSpec)

/-- 'marqueelaw01.UtfJoins', WHERE WHAT IT READS IS OF BULK AT MOST 1048576: true; the input reads as it did. -/
def utfJoinsUptoRow : OpenClaim := { program := "ytacmldggdacdpaadoor", sum := "a4d592c281773d337b31869d20caca500c852cc0b20810d8063a56210d3a472c", func := "marquee/marqueelaw01.UtfJoins", spec := "utfJoins", unfollowed := true, recurses := true, named := ["unicode/utf8.first", "unicode/utf8.acceptRanges"], apart := false, laid := [("unicode/utf8.acceptRanges", laid_unicode_utf8_acceptRanges), ("unicode/utf8.first", laid_unicode_utf8_first)], narrowed := true }
def UtfJoinsUptoSaid : Prop := utfJoinsUptoRow.holds Tryd.pinned (OpenSpec.upto utfJoinsSpec)

/-- 'marqueelaw01.UtfNone', WHERE WHAT IT READS IS OF BULK AT MOST 1048576: true; the input reads as it did. -/
def utfNoneUptoRow : OpenClaim := { program := "ytacmldggdacdpaadoor", sum := "a4d592c281773d337b31869d20caca500c852cc0b20810d8063a56210d3a472c", func := "marquee/marqueelaw01.UtfNone", spec := "utfNone", unfollowed := true, recurses := true, named := ["unicode/utf8.first", "unicode/utf8.acceptRanges"], apart := false, laid := [("unicode/utf8.acceptRanges", laid_unicode_utf8_acceptRanges), ("unicode/utf8.first", laid_unicode_utf8_first)], narrowed := true }
def UtfNoneUptoSaid : Prop := utfNoneUptoRow.holds Tryd.pinned (OpenSpec.upto utfNoneSpec)

/-- 'marqueelaw02.WidthOf', WHERE WHAT IT READS IS OF BULK AT MOST 1048576: true; the input reads as it did. -/
def widthOfUptoRow : OpenClaim := { program := "ytacmldggdacdpaadoor", sum := "a4d592c281773d337b31869d20caca500c852cc0b20810d8063a56210d3a472c", func := "marquee/marqueelaw02.WidthOf", spec := "widthOf", unfollowed := true, recurses := true, named := ["marquee/width.marks", "marquee/width.wides"], apart := false, laid := [("marquee/width.marks", laid_marquee_width_marks), ("marquee/width.wides", laid_marquee_width_wides)], narrowed := true }
def WidthOfUptoSaid : Prop := widthOfUptoRow.holds Tryd.pinned (OpenSpec.upto widthOfSpec)

/-- 'marqueelaw02.WidthText', WHERE WHAT IT READS IS OF BULK AT MOST 1048576: true; the input reads as it did. -/
def widthTextUptoRow : OpenClaim := { program := "ytacmldggdacdpaadoor", sum := "a4d592c281773d337b31869d20caca500c852cc0b20810d8063a56210d3a472c", func := "marquee/marqueelaw02.WidthText", spec := "widthText", unfollowed := true, recurses := true, named := ["marquee/width.marks", "marquee/width.wides"], apart := false, laid := [("marquee/width.marks", laid_marquee_width_marks), ("marquee/width.wides", laid_marquee_width_wides)], narrowed := true }
def WidthTextUptoSaid : Prop := widthTextUptoRow.holds Tryd.pinned (OpenSpec.upto widthTextSpec)

/-- 'marqueelaw02.WidthClusters', WHERE WHAT IT READS IS OF BULK AT MOST 1048576: true; the input reads as it did. -/
def widthClustersUptoRow : OpenClaim := { program := "ytacmldggdacdpaadoor", sum := "a4d592c281773d337b31869d20caca500c852cc0b20810d8063a56210d3a472c", func := "marquee/marqueelaw02.WidthClusters", spec := "widthClusters", unfollowed := true, recurses := true, named := ["marquee/width.marks", "marquee/width.wides"], apart := false, laid := [("marquee/width.marks", laid_marquee_width_marks), ("marquee/width.wides", laid_marquee_width_wides)], narrowed := true }
def WidthClustersUptoSaid : Prop := widthClustersUptoRow.holds Tryd.pinned (OpenSpec.upto widthClustersSpec)

/-- 'marqueelaw02.WidthFits', WHERE WHAT IT READS IS OF BULK AT MOST 1048576: true; the input reads as it did. -/
def widthFitsUptoRow : OpenClaim := { program := "ytacmldggdacdpaadoor", sum := "a4d592c281773d337b31869d20caca500c852cc0b20810d8063a56210d3a472c", func := "marquee/marqueelaw02.WidthFits", spec := "widthFits", unfollowed := true, recurses := true, named := ["marquee/width.marks", "marquee/width.wides"], apart := false, laid := [("marquee/width.marks", laid_marquee_width_marks), ("marquee/width.wides", laid_marquee_width_wides)], narrowed := true }
def WidthFitsUptoSaid : Prop := widthFitsUptoRow.holds Tryd.pinned (OpenSpec.upto widthFitsSpec)

/-- 'marqueelaw02.WidthGreedy', WHERE WHAT IT READS IS OF BULK AT MOST 1048576: true; the input reads as it did. -/
def widthGreedyUptoRow : OpenClaim := { program := "ytacmldggdacdpaadoor", sum := "a4d592c281773d337b31869d20caca500c852cc0b20810d8063a56210d3a472c", func := "marquee/marqueelaw02.WidthGreedy", spec := "widthGreedy", unfollowed := true, recurses := true, named := ["marquee/width.marks", "marquee/width.wides"], apart := false, laid := [("marquee/width.marks", laid_marquee_width_marks), ("marquee/width.wides", laid_marquee_width_wides)], narrowed := true }
def WidthGreedyUptoSaid : Prop := widthGreedyUptoRow.holds Tryd.pinned (OpenSpec.upto widthGreedySpec)

end Rows
end Go.Proofs.YtacmldggdacdpaaDoor
