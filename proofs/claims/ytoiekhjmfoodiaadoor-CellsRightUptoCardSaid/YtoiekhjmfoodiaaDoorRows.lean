/-
  NARROWER THAN 'FOR EVERY INPUT', by the rows' own cells (each row's printed sentence says how): CellsRight: laid · CellsKeep: laid · CellsPlays: laid · CellsBlanks: laid · CellsOwn: laid.
  DERIVED. THE GIVEN ROWS OF THIS SEAT. 5 by the template 'for every input the law returns true; each argument reads behind the call as it read before'; 0 by the template 'total and deterministic' (their statements: YtoiekhjmfoodiaaDoorTotals.lean).
  GIVEN WITH THE SEED: the statements are not yours to turn. If you find one false, say at which input.
  Laid BY PROGRAM, IN A SANDBOX (cutbox-rows.mjs): the forced cells as the released guide's own fill.sh prints them over the translation 0f0c0f883b7f60ac… (all of the seat's roots in one cut). By AI agents, Wed Nov 11 2026. No macro, syntax, notation, axiom, sorry.
-/
import Derived.Test.YtoiekhjmfoodiaaDoorChecked
import GoSem.PinnedTables
import GoSem.Claim
import GoSem.ClaimJoined
import GoSem.ClaimMapViews
import Derived.JoinedTies
import Derived.KernelRfl
namespace Go.Proofs.YtoiekhjmfoodiaaDoor
/- THE CELL 'sum', in the pinned program and in every row, IS THE sha256 OF THE DUMP (.gsa) THAT YtoiekhjmfoodiaaDoorProg.lean LOADS. Nothing in Lean hashes anything: it is a label: what it is worth is what the hold of that sum in a sandbox is worth. -/
noncomputable def Tryd.pinned : Pinned := { name := "ytoiekhjmfoodiaadoor", sum := "0f0c0f883b7f60acf3a377eadb39e8d6afbea477ee62822593c86dc90bc8af12", checked := Tryd.checked }
namespace Rows
def none {H : Type} : Left H := { results := [], args := [] }

/- WHAT THE LISTED PACKAGE-LEVEL VARIABLES READ AS WHEN THE CALL BEGINS. Each datum BY PROGRAM (the guide's laid-datum.mjs) off the statement by which the dump's own 'gosem.cut.vars' lays the variable. In a bare row this is a premise. The card (YtoiekhjmfoodiaaDoorCards.lean) ties it to the program's text. -/
def laid_unicode_utf8_acceptRanges {H : Type} : DataW H := .agg [.agg [.lit (.int .u8 128), .lit (.int .u8 191)], .agg [.lit (.int .u8 160), .lit (.int .u8 191)], .agg [.lit (.int .u8 128), .lit (.int .u8 159)], .agg [.lit (.int .u8 144), .lit (.int .u8 191)], .agg [.lit (.int .u8 128), .lit (.int .u8 143)], .agg [.lit (.int .u8 0), .lit (.int .u8 0)], .agg [.lit (.int .u8 0), .lit (.int .u8 0)], .agg [.lit (.int .u8 0), .lit (.int .u8 0)], .agg [.lit (.int .u8 0), .lit (.int .u8 0)], .agg [.lit (.int .u8 0), .lit (.int .u8 0)], .agg [.lit (.int .u8 0), .lit (.int .u8 0)], .agg [.lit (.int .u8 0), .lit (.int .u8 0)], .agg [.lit (.int .u8 0), .lit (.int .u8 0)], .agg [.lit (.int .u8 0), .lit (.int .u8 0)], .agg [.lit (.int .u8 0), .lit (.int .u8 0)], .agg [.lit (.int .u8 0), .lit (.int .u8 0)]]
def laid_marquee_width_marks {H : Type} : DataW H := .agg [.agg [.lit (.int .i32 768), .lit (.int .i32 879)], .agg [.lit (.int .i32 1155), .lit (.int .i32 1161)], .agg [.lit (.int .i32 1425), .lit (.int .i32 1469)], .agg [.lit (.int .i32 1552), .lit (.int .i32 1562)], .agg [.lit (.int .i32 1611), .lit (.int .i32 1631)], .agg [.lit (.int .i32 2304), .lit (.int .i32 2306)], .agg [.lit (.int .i32 2364), .lit (.int .i32 2364)], .agg [.lit (.int .i32 2369), .lit (.int .i32 2376)], .agg [.lit (.int .i32 3633), .lit (.int .i32 3633)], .agg [.lit (.int .i32 3636), .lit (.int .i32 3642)], .agg [.lit (.int .i32 6832), .lit (.int .i32 6911)], .agg [.lit (.int .i32 7616), .lit (.int .i32 7679)], .agg [.lit (.int .i32 8203), .lit (.int .i32 8207)], .agg [.lit (.int .i32 8400), .lit (.int .i32 8447)], .agg [.lit (.int .i32 8288), .lit (.int .i32 8292)], .agg [.lit (.int .i32 65024), .lit (.int .i32 65039)], .agg [.lit (.int .i32 65056), .lit (.int .i32 65071)], .agg [.lit (.int .i32 65279), .lit (.int .i32 65279)], .agg [.lit (.int .i32 917760), .lit (.int .i32 917999)]]
def laid_marquee_width_wides {H : Type} : DataW H := .agg [.agg [.lit (.int .i32 4352), .lit (.int .i32 4447)], .agg [.lit (.int .i32 8986), .lit (.int .i32 8987)], .agg [.lit (.int .i32 9001), .lit (.int .i32 9002)], .agg [.lit (.int .i32 9193), .lit (.int .i32 9196)], .agg [.lit (.int .i32 9725), .lit (.int .i32 9726)], .agg [.lit (.int .i32 9748), .lit (.int .i32 9749)], .agg [.lit (.int .i32 11904), .lit (.int .i32 12350)], .agg [.lit (.int .i32 12353), .lit (.int .i32 13311)], .agg [.lit (.int .i32 13312), .lit (.int .i32 19903)], .agg [.lit (.int .i32 19968), .lit (.int .i32 40959)], .agg [.lit (.int .i32 40960), .lit (.int .i32 42191)], .agg [.lit (.int .i32 43360), .lit (.int .i32 43391)], .agg [.lit (.int .i32 44032), .lit (.int .i32 55203)], .agg [.lit (.int .i32 63744), .lit (.int .i32 64255)], .agg [.lit (.int .i32 65072), .lit (.int .i32 65135)], .agg [.lit (.int .i32 65280), .lit (.int .i32 65376)], .agg [.lit (.int .i32 65504), .lit (.int .i32 65510)], .agg [.lit (.int .i32 127744), .lit (.int .i32 128591)], .agg [.lit (.int .i32 128640), .lit (.int .i32 128767)], .agg [.lit (.int .i32 129280), .lit (.int .i32 129535)], .agg [.lit (.int .i32 131072), .lit (.int .i32 196605)], .agg [.lit (.int .i32 196608), .lit (.int .i32 262141)]]
/-- One of Go's own tables, pinned by name: the form's constant. -/
def laid_unicode_utf8_first : DataW Unit := Go.Pinned.utf8First

/-- 'marqueelaw07.CellsRight': WHATEVER THE INPUT: true; the input reads as it did. -/
def cellsRightSpec : ChangeSpec := { name := "cellsRight", fn := fun _ => fun
  | [d] => { results := [.lit (.bool true)], args := [d] }
  | _ => none }
def cellsRightRow : OpenClaim := { program := "ytoiekhjmfoodiaadoor", sum := "0f0c0f883b7f60acf3a377eadb39e8d6afbea477ee62822593c86dc90bc8af12", func := "marquee/marqueelaw07.CellsRight", spec := "cellsRight", inPlace := ["internal/abi.NoEscape"], unfollowed := true, recurses := true, named := ["marquee/width.marks", "marquee/width.wides", "unicode/utf8.first", "unicode/utf8.acceptRanges"], apart := false, laid := [("unicode/utf8.acceptRanges", laid_unicode_utf8_acceptRanges), ("marquee/width.marks", laid_marquee_width_marks), ("marquee/width.wides", laid_marquee_width_wides), ("unicode/utf8.first", laid_unicode_utf8_first)] }
def CellsRightSaid : Prop := cellsRightRow.holds Tryd.pinned (OpenSpec.ofChange cellsRightSpec)

/-- ITS FALSE NEIGHBOUR: 'it returns false'. Refute it at one input. -/
def cellsRightWrong : ChangeSpec := { name := "cellsRight", fn := fun _ => fun
  | [d] => { results := [.lit (.bool false)], args := [d] }
  | _ => none }
def CellsRightWrongFalsely : Prop := cellsRightRow.holds Tryd.pinned (OpenSpec.ofChange cellsRightWrong)

/-- 'marqueelaw07.CellsKeep': WHATEVER THE INPUT: true; the input reads as it did. -/
def cellsKeepSpec : ChangeSpec := { name := "cellsKeep", fn := fun _ => fun
  | [d1, d2] => { results := [.lit (.bool true)], args := [d1, d2] }
  | _ => none }
def cellsKeepRow : OpenClaim := { program := "ytoiekhjmfoodiaadoor", sum := "0f0c0f883b7f60acf3a377eadb39e8d6afbea477ee62822593c86dc90bc8af12", func := "marquee/marqueelaw07.CellsKeep", spec := "cellsKeep", inPlace := ["internal/abi.NoEscape"], unfollowed := true, recurses := true, named := ["marquee/width.marks", "marquee/width.wides", "unicode/utf8.first", "unicode/utf8.acceptRanges"], apart := false, laid := [("unicode/utf8.acceptRanges", laid_unicode_utf8_acceptRanges), ("marquee/width.marks", laid_marquee_width_marks), ("marquee/width.wides", laid_marquee_width_wides), ("unicode/utf8.first", laid_unicode_utf8_first)] }
def CellsKeepSaid : Prop := cellsKeepRow.holds Tryd.pinned (OpenSpec.ofChange cellsKeepSpec)

/-- ITS FALSE NEIGHBOUR: 'it returns false'. Refute it at one input. -/
def cellsKeepWrong : ChangeSpec := { name := "cellsKeep", fn := fun _ => fun
  | [d1, d2] => { results := [.lit (.bool false)], args := [d1, d2] }
  | _ => none }
def CellsKeepWrongFalsely : Prop := cellsKeepRow.holds Tryd.pinned (OpenSpec.ofChange cellsKeepWrong)

/-- 'marqueelaw07.CellsPlays': WHATEVER THE INPUT: true; the input reads as it did. -/
def cellsPlaysSpec : ChangeSpec := { name := "cellsPlays", fn := fun _ => fun
  | [d1, d2, d3] => { results := [.lit (.bool true)], args := [d1, d2, d3] }
  | _ => none }
def cellsPlaysRow : OpenClaim := { program := "ytoiekhjmfoodiaadoor", sum := "0f0c0f883b7f60acf3a377eadb39e8d6afbea477ee62822593c86dc90bc8af12", func := "marquee/marqueelaw07.CellsPlays", spec := "cellsPlays", inPlace := ["internal/abi.NoEscape"], unfollowed := true, recurses := true, named := ["marquee/width.marks", "marquee/width.wides"], apart := false, laid := [("marquee/width.marks", laid_marquee_width_marks), ("marquee/width.wides", laid_marquee_width_wides)] }
def CellsPlaysSaid : Prop := cellsPlaysRow.holds Tryd.pinned (OpenSpec.ofChange cellsPlaysSpec)

/-- ITS FALSE NEIGHBOUR: 'it returns false'. Refute it at one input. -/
def cellsPlaysWrong : ChangeSpec := { name := "cellsPlays", fn := fun _ => fun
  | [d1, d2, d3] => { results := [.lit (.bool false)], args := [d1, d2, d3] }
  | _ => none }
def CellsPlaysWrongFalsely : Prop := cellsPlaysRow.holds Tryd.pinned (OpenSpec.ofChange cellsPlaysWrong)

/-- 'marqueelaw07.CellsBlanks': WHATEVER THE INPUT: true; the input reads as it did. -/
def cellsBlanksSpec : ChangeSpec := { name := "cellsBlanks", fn := fun _ => fun
  | [d1, d2] => { results := [.lit (.bool true)], args := [d1, d2] }
  | _ => none }
def cellsBlanksRow : OpenClaim := { program := "ytoiekhjmfoodiaadoor", sum := "0f0c0f883b7f60acf3a377eadb39e8d6afbea477ee62822593c86dc90bc8af12", func := "marquee/marqueelaw07.CellsBlanks", spec := "cellsBlanks", inPlace := ["internal/abi.NoEscape"], unfollowed := true, recurses := true, named := ["marquee/width.marks", "marquee/width.wides", "unicode/utf8.first", "unicode/utf8.acceptRanges"], apart := false, laid := [("unicode/utf8.acceptRanges", laid_unicode_utf8_acceptRanges), ("marquee/width.marks", laid_marquee_width_marks), ("marquee/width.wides", laid_marquee_width_wides), ("unicode/utf8.first", laid_unicode_utf8_first)] }
def CellsBlanksSaid : Prop := cellsBlanksRow.holds Tryd.pinned (OpenSpec.ofChange cellsBlanksSpec)

/-- ITS FALSE NEIGHBOUR: 'it returns false'. Refute it at one input. -/
def cellsBlanksWrong : ChangeSpec := { name := "cellsBlanks", fn := fun _ => fun
  | [d1, d2] => { results := [.lit (.bool false)], args := [d1, d2] }
  | _ => none }
def CellsBlanksWrongFalsely : Prop := cellsBlanksRow.holds Tryd.pinned (OpenSpec.ofChange cellsBlanksWrong)

/-- 'marqueelaw07.CellsOwn': WHATEVER THE INPUT: true; the input reads as it did. -/
def cellsOwnSpec : ChangeSpec := { name := "cellsOwn", fn := fun _ => fun
  | [d1, d2] => { results := [.lit (.bool true)], args := [d1, d2] }
  | _ => none }
def cellsOwnRow : OpenClaim := { program := "ytoiekhjmfoodiaadoor", sum := "0f0c0f883b7f60acf3a377eadb39e8d6afbea477ee62822593c86dc90bc8af12", func := "marquee/marqueelaw07.CellsOwn", spec := "cellsOwn", inPlace := ["internal/abi.NoEscape"], unfollowed := true, recurses := true, named := ["marquee/width.marks", "marquee/width.wides"], apart := false, laid := [("marquee/width.marks", laid_marquee_width_marks), ("marquee/width.wides", laid_marquee_width_wides)] }
def CellsOwnSaid : Prop := cellsOwnRow.holds Tryd.pinned (OpenSpec.ofChange cellsOwnSpec)

/-- ITS FALSE NEIGHBOUR: 'it returns false'. Refute it at one input. -/
def cellsOwnWrong : ChangeSpec := { name := "cellsOwn", fn := fun _ => fun
  | [d1, d2] => { results := [.lit (.bool false)], args := [d1, d2] }
  | _ => none }
def CellsOwnWrongFalsely : Prop := cellsOwnRow.holds Tryd.pinned (OpenSpec.ofChange cellsOwnWrong)

/- THE SECOND FORM. 'bulk': how many values and letters a reading holds, each counted each time it is reached (what is shared counts as often as it is met; a slice's spare places count too). A statement '..UptoSaid' is the law's where the arguments, and the package variables that the reading takes, are together of bulk at most 1048576: NARROWER than '..Said'. Prove '..Said' where nothing that the law and all that it calls make is longer than what came in: it says more and counts as full. Else prove '..UptoSaid'. A law counts once. -/
mutual
def uptoBulk {H : Type} : DataW H → Nat
  | .lit (.string bytes) => bytes.length + 1
  | .lit _ => 1
  | .nil => 1
  | .ptr d => uptoBulk d + 1
  | .slice elems spare => uptoBulkAll elems + uptoBulkAll spare + 1
  | .agg parts => uptoBulkAll parts + 1
  | .iface _ d => uptoBulk d + 1
  | .map entries => uptoBulkEntries entries + 1
  | .held _ => 1
def uptoBulkAll {H : Type} : List (DataW H) → Nat
  | [] => 0
  | d :: r => uptoBulk d + uptoBulkAll r
def uptoBulkEntries {H : Type} : List (Lit × DataW H) → Nat
  | [] => 0
  | x :: r => uptoBulkEntry x + uptoBulkEntries r
def uptoBulkEntry {H : Type} : Lit × DataW H → Nat
  | (.string bytes, d) => bytes.length + uptoBulk d + 1
  | (_, d) => uptoBulk d + 1
 end
def uptoSmall : (H : Type) → List (DataW H) → Bool := fun _ ds => decide (uptoBulkAll ds ≤ 1048576)
def OpenSpec.upto (s : _root_.Go.ChangeSpec) : _root_.Go.OpenSpec := { _root_.Go.OpenSpec.ofChange s with cond := some uptoSmall }

/-- 'marqueelaw07.CellsRight', WHERE WHAT IT READS IS OF BULK AT MOST 1048576: true; the input reads as it did. -/
def cellsRightUptoRow : OpenClaim := { program := "ytoiekhjmfoodiaadoor", sum := "0f0c0f883b7f60acf3a377eadb39e8d6afbea477ee62822593c86dc90bc8af12", func := "marquee/marqueelaw07.CellsRight", spec := "cellsRight", inPlace := ["internal/abi.NoEscape"], unfollowed := true, recurses := true, named := ["marquee/width.marks", "marquee/width.wides", "unicode/utf8.first", "unicode/utf8.acceptRanges"], apart := false, laid := [("unicode/utf8.acceptRanges", laid_unicode_utf8_acceptRanges), ("marquee/width.marks", laid_marquee_width_marks), ("marquee/width.wides", laid_marquee_width_wides), ("unicode/utf8.first", laid_unicode_utf8_first)], narrowed := true }
def CellsRightUptoSaid : Prop := cellsRightUptoRow.holds Tryd.pinned (OpenSpec.upto cellsRightSpec)

/-- 'marqueelaw07.CellsKeep', WHERE WHAT IT READS IS OF BULK AT MOST 1048576: true; the input reads as it did. -/
def cellsKeepUptoRow : OpenClaim := { program := "ytoiekhjmfoodiaadoor", sum := "0f0c0f883b7f60acf3a377eadb39e8d6afbea477ee62822593c86dc90bc8af12", func := "marquee/marqueelaw07.CellsKeep", spec := "cellsKeep", inPlace := ["internal/abi.NoEscape"], unfollowed := true, recurses := true, named := ["marquee/width.marks", "marquee/width.wides", "unicode/utf8.first", "unicode/utf8.acceptRanges"], apart := false, laid := [("unicode/utf8.acceptRanges", laid_unicode_utf8_acceptRanges), ("marquee/width.marks", laid_marquee_width_marks), ("marquee/width.wides", laid_marquee_width_wides), ("unicode/utf8.first", laid_unicode_utf8_first)], narrowed := true }
def CellsKeepUptoSaid : Prop := cellsKeepUptoRow.holds Tryd.pinned (OpenSpec.upto cellsKeepSpec)

/-- 'marqueelaw07.CellsPlays', WHERE WHAT IT READS IS OF BULK AT MOST 1048576: true; the input reads as it did. -/
def cellsPlaysUptoRow : OpenClaim := { program := "ytoiekhjmfoodiaadoor", sum := "0f0c0f883b7f60acf3a377eadb39e8d6afbea477ee62822593c86dc90bc8af12", func := "marquee/marqueelaw07.CellsPlays", spec := "cellsPlays", inPlace := ["internal/abi.NoEscape"], unfollowed := true, recurses := true, named := ["marquee/width.marks", "marquee/width.wides"], apart := false, laid := [("marquee/width.marks", laid_marquee_width_marks), ("marquee/width.wides", laid_marquee_width_wides)], narrowed := true }
def CellsPlaysUptoSaid : Prop := cellsPlaysUptoRow.holds Tryd.pinned (OpenSpec.upto cellsPlaysSpec)

/-- 'marqueelaw07.CellsBlanks', WHERE WHAT IT READS IS OF BULK AT MOST 1048576: true; the input reads as it did. -/
def cellsBlanksUptoRow : OpenClaim := { program := "ytoiekhjmfoodiaadoor", sum := "0f0c0f883b7f60acf3a377eadb39e8d6afbea477ee62822593c86dc90bc8af12", func := "marquee/marqueelaw07.CellsBlanks", spec := "cellsBlanks", inPlace := ["internal/abi.NoEscape"], unfollowed := true, recurses := true, named := ["marquee/width.marks", "marquee/width.wides", "unicode/utf8.first", "unicode/utf8.acceptRanges"], apart := false, laid := [("unicode/utf8.acceptRanges", laid_unicode_utf8_acceptRanges), ("marquee/width.marks", laid_marquee_width_marks), ("marquee/width.wides", laid_marquee_width_wides), ("unicode/utf8.first", laid_unicode_utf8_first)], narrowed := true }
def CellsBlanksUptoSaid : Prop := cellsBlanksUptoRow.holds Tryd.pinned (OpenSpec.upto cellsBlanksSpec)

/-- 'marqueelaw07.CellsOwn', WHERE WHAT IT READS IS OF BULK AT MOST 1048576: true; the input reads as it did. -/
def cellsOwnUptoRow : OpenClaim := { program := "ytoiekhjmfoodiaadoor", sum := "0f0c0f883b7f60acf3a377eadb39e8d6afbea477ee62822593c86dc90bc8af12", func := "marquee/marqueelaw07.CellsOwn", spec := "cellsOwn", inPlace := ["internal/abi.NoEscape"], unfollowed := true, recurses := true, named := ["marquee/width.marks", "marquee/width.wides"], apart := false, laid := [("marquee/width.marks", laid_marquee_width_marks), ("marquee/width.wides", laid_marquee_width_wides)], narrowed := true }
def CellsOwnUptoSaid : Prop := cellsOwnUptoRow.holds Tryd.pinned (OpenSpec.upto cellsOwnSpec)

end Rows
end Go.Proofs.YtoiekhjmfoodiaaDoor
