/-
  NARROWER THAN 'FOR EVERY INPUT', by the rows' own cells (each row's printed sentence says how): ParseAll: laid · ParseSteps: laid · ParseCuts: laid · ParseHolds: laid · ParseCancels: laid · ParseCopies: laid · ParseNone: laid.
  DERIVED. THE GIVEN ROWS OF THIS SEAT. 7 by the template 'for every input the law returns true; each argument reads behind the call as it read before'; 0 by the template 'total and deterministic' (their statements: YtmmkcfjncpcabaaDoorTotals.lean).
  GIVEN WITH THE SEED: the statements are not yours to turn. If you find one false, say at which input.
  Laid BY PROGRAM, IN A SANDBOX (cutbox-rows.mjs): the forced cells as the released guide's own fill.sh prints them over the translation d6d67d779c666497… (all of the seat's roots in one cut). By AI agents, Wed Nov 11 2026. No macro, syntax, notation, axiom, sorry.
-/
import Derived.Test.YtmmkcfjncpcabaaDoorChecked
import GoSem.PinnedTables
import GoSem.Claim
import GoSem.ClaimJoined
import GoSem.ClaimMapViews
import Derived.JoinedTies
import Derived.KernelRfl
namespace Go.Proofs.YtmmkcfjncpcabaaDoor
/- THE CELL 'sum', in the pinned program and in every row, IS THE sha256 OF THE DUMP (.gsa) THAT YtmmkcfjncpcabaaDoorProg.lean LOADS. Nothing in Lean hashes anything: it is a label: what it is worth is what the hold of that sum in a sandbox is worth. -/
noncomputable def Tryd.pinned : Pinned := { name := "ytmmkcfjncpcabaadoor", sum := "d6d67d779c666497697ce14dc21a8ae2a94e5ec877d44acc4172ee4a426ccb44", checked := Tryd.checked }
namespace Rows
def none {H : Type} : Left H := { results := [], args := [] }

/- WHAT THE LISTED PACKAGE-LEVEL VARIABLES READ AS WHEN THE CALL BEGINS. Each datum BY PROGRAM (the guide's laid-datum.mjs) off the statement by which the dump's own 'gosem.cut.vars' lays the variable. In a bare row this is a premise. The card (YtmmkcfjncpcabaaDoorCards.lean) ties it to the program's text. -/
def laid_unicode_utf8_acceptRanges {H : Type} : DataW H := .agg [.agg [.lit (.int .u8 128), .lit (.int .u8 191)], .agg [.lit (.int .u8 160), .lit (.int .u8 191)], .agg [.lit (.int .u8 128), .lit (.int .u8 159)], .agg [.lit (.int .u8 144), .lit (.int .u8 191)], .agg [.lit (.int .u8 128), .lit (.int .u8 143)], .agg [.lit (.int .u8 0), .lit (.int .u8 0)], .agg [.lit (.int .u8 0), .lit (.int .u8 0)], .agg [.lit (.int .u8 0), .lit (.int .u8 0)], .agg [.lit (.int .u8 0), .lit (.int .u8 0)], .agg [.lit (.int .u8 0), .lit (.int .u8 0)], .agg [.lit (.int .u8 0), .lit (.int .u8 0)], .agg [.lit (.int .u8 0), .lit (.int .u8 0)], .agg [.lit (.int .u8 0), .lit (.int .u8 0)], .agg [.lit (.int .u8 0), .lit (.int .u8 0)], .agg [.lit (.int .u8 0), .lit (.int .u8 0)], .agg [.lit (.int .u8 0), .lit (.int .u8 0)]]
/-- One of Go's own tables, pinned by name: the form's constant. -/
def laid_unicode_utf8_first : DataW Unit := Go.Pinned.utf8First

/-- 'marqueelaw04.ParseAll': WHATEVER THE INPUT: true; the input reads as it did. -/
def parseAllSpec : ChangeSpec := { name := "parseAll", fn := fun _ => fun
  | [d1, d2] => { results := [.lit (.bool true)], args := [d1, d2] }
  | _ => none }
def parseAllRow : OpenClaim := { program := "ytmmkcfjncpcabaadoor", sum := "d6d67d779c666497697ce14dc21a8ae2a94e5ec877d44acc4172ee4a426ccb44", func := "marquee/marqueelaw04.ParseAll", spec := "parseAll", inPlace := ["internal/bytealg.IndexByteString", "internal/bytealg.IndexString"], unfollowed := true, recurses := true, named := ["unicode/utf8.first", "unicode/utf8.acceptRanges", "internal/bytealg.MaxLen"], apart := false, laid := [("unicode/utf8.acceptRanges", laid_unicode_utf8_acceptRanges), ("unicode/utf8.first", laid_unicode_utf8_first)] }
def ParseAllSaid : Prop := parseAllRow.holds Tryd.pinned (OpenSpec.ofChange parseAllSpec)

/-- ITS FALSE NEIGHBOUR: 'it returns false'. Refute it at one input. -/
def parseAllWrong : ChangeSpec := { name := "parseAll", fn := fun _ => fun
  | [d1, d2] => { results := [.lit (.bool false)], args := [d1, d2] }
  | _ => none }
def ParseAllWrongFalsely : Prop := parseAllRow.holds Tryd.pinned (OpenSpec.ofChange parseAllWrong)

/-- 'marqueelaw04.ParseSteps': WHATEVER THE INPUT: true; the input reads as it did. -/
def parseStepsSpec : ChangeSpec := { name := "parseSteps", fn := fun _ => fun
  | [d1, d2] => { results := [.lit (.bool true)], args := [d1, d2] }
  | _ => none }
def parseStepsRow : OpenClaim := { program := "ytmmkcfjncpcabaadoor", sum := "d6d67d779c666497697ce14dc21a8ae2a94e5ec877d44acc4172ee4a426ccb44", func := "marquee/marqueelaw04.ParseSteps", spec := "parseSteps", inPlace := ["internal/bytealg.IndexByteString", "internal/bytealg.IndexString"], unfollowed := true, recurses := true, named := ["unicode/utf8.first", "unicode/utf8.acceptRanges", "internal/bytealg.MaxLen"], apart := false, laid := [("unicode/utf8.acceptRanges", laid_unicode_utf8_acceptRanges), ("unicode/utf8.first", laid_unicode_utf8_first)] }
def ParseStepsSaid : Prop := parseStepsRow.holds Tryd.pinned (OpenSpec.ofChange parseStepsSpec)

/-- ITS FALSE NEIGHBOUR: 'it returns false'. Refute it at one input. -/
def parseStepsWrong : ChangeSpec := { name := "parseSteps", fn := fun _ => fun
  | [d1, d2] => { results := [.lit (.bool false)], args := [d1, d2] }
  | _ => none }
def ParseStepsWrongFalsely : Prop := parseStepsRow.holds Tryd.pinned (OpenSpec.ofChange parseStepsWrong)

/-- 'marqueelaw04.ParseCuts': WHATEVER THE INPUT: true; the input reads as it did. -/
def parseCutsSpec : ChangeSpec := { name := "parseCuts", fn := fun _ => fun
  | [d1, d2, d3] => { results := [.lit (.bool true)], args := [d1, d2, d3] }
  | _ => none }
def parseCutsRow : OpenClaim := { program := "ytmmkcfjncpcabaadoor", sum := "d6d67d779c666497697ce14dc21a8ae2a94e5ec877d44acc4172ee4a426ccb44", func := "marquee/marqueelaw04.ParseCuts", spec := "parseCuts", inPlace := ["internal/bytealg.IndexByteString", "internal/bytealg.IndexString"], unfollowed := true, recurses := true, named := ["unicode/utf8.first", "unicode/utf8.acceptRanges", "internal/bytealg.MaxLen"], apart := false, laid := [("unicode/utf8.acceptRanges", laid_unicode_utf8_acceptRanges), ("unicode/utf8.first", laid_unicode_utf8_first)] }
def ParseCutsSaid : Prop := parseCutsRow.holds Tryd.pinned (OpenSpec.ofChange parseCutsSpec)

/-- ITS FALSE NEIGHBOUR: 'it returns false'. Refute it at one input. -/
def parseCutsWrong : ChangeSpec := { name := "parseCuts", fn := fun _ => fun
  | [d1, d2, d3] => { results := [.lit (.bool false)], args := [d1, d2, d3] }
  | _ => none }
def ParseCutsWrongFalsely : Prop := parseCutsRow.holds Tryd.pinned (OpenSpec.ofChange parseCutsWrong)

/-- 'marqueelaw04.ParseHolds': WHATEVER THE INPUT: true; the input reads as it did. -/
def parseHoldsSpec : ChangeSpec := { name := "parseHolds", fn := fun _ => fun
  | [d1, d2, d3] => { results := [.lit (.bool true)], args := [d1, d2, d3] }
  | _ => none }
def parseHoldsRow : OpenClaim := { program := "ytmmkcfjncpcabaadoor", sum := "d6d67d779c666497697ce14dc21a8ae2a94e5ec877d44acc4172ee4a426ccb44", func := "marquee/marqueelaw04.ParseHolds", spec := "parseHolds", inPlace := ["internal/bytealg.IndexByteString", "internal/bytealg.IndexString"], unfollowed := true, recurses := true, named := ["unicode/utf8.first", "unicode/utf8.acceptRanges", "internal/bytealg.MaxLen"], apart := false, laid := [("unicode/utf8.acceptRanges", laid_unicode_utf8_acceptRanges), ("unicode/utf8.first", laid_unicode_utf8_first)] }
def ParseHoldsSaid : Prop := parseHoldsRow.holds Tryd.pinned (OpenSpec.ofChange parseHoldsSpec)

/-- ITS FALSE NEIGHBOUR: 'it returns false'. Refute it at one input. -/
def parseHoldsWrong : ChangeSpec := { name := "parseHolds", fn := fun _ => fun
  | [d1, d2, d3] => { results := [.lit (.bool false)], args := [d1, d2, d3] }
  | _ => none }
def ParseHoldsWrongFalsely : Prop := parseHoldsRow.holds Tryd.pinned (OpenSpec.ofChange parseHoldsWrong)

/-- 'marqueelaw04.ParseCancels': WHATEVER THE INPUT: true; the input reads as it did. -/
def parseCancelsSpec : ChangeSpec := { name := "parseCancels", fn := fun _ => fun
  | [d1, d2, d3] => { results := [.lit (.bool true)], args := [d1, d2, d3] }
  | _ => none }
def parseCancelsRow : OpenClaim := { program := "ytmmkcfjncpcabaadoor", sum := "d6d67d779c666497697ce14dc21a8ae2a94e5ec877d44acc4172ee4a426ccb44", func := "marquee/marqueelaw04.ParseCancels", spec := "parseCancels", inPlace := ["internal/bytealg.IndexByteString", "internal/bytealg.IndexString"], unfollowed := true, recurses := true, named := ["unicode/utf8.first", "unicode/utf8.acceptRanges", "internal/bytealg.MaxLen"], apart := false, laid := [("unicode/utf8.acceptRanges", laid_unicode_utf8_acceptRanges), ("unicode/utf8.first", laid_unicode_utf8_first)] }
def ParseCancelsSaid : Prop := parseCancelsRow.holds Tryd.pinned (OpenSpec.ofChange parseCancelsSpec)

/-- ITS FALSE NEIGHBOUR: 'it returns false'. Refute it at one input. -/
def parseCancelsWrong : ChangeSpec := { name := "parseCancels", fn := fun _ => fun
  | [d1, d2, d3] => { results := [.lit (.bool false)], args := [d1, d2, d3] }
  | _ => none }
def ParseCancelsWrongFalsely : Prop := parseCancelsRow.holds Tryd.pinned (OpenSpec.ofChange parseCancelsWrong)

/-- 'marqueelaw04.ParseCopies': WHATEVER THE INPUT: true; the input reads as it did. -/
def parseCopiesSpec : ChangeSpec := { name := "parseCopies", fn := fun _ => fun
  | [d1, d2, d3] => { results := [.lit (.bool true)], args := [d1, d2, d3] }
  | _ => none }
def parseCopiesRow : OpenClaim := { program := "ytmmkcfjncpcabaadoor", sum := "d6d67d779c666497697ce14dc21a8ae2a94e5ec877d44acc4172ee4a426ccb44", func := "marquee/marqueelaw04.ParseCopies", spec := "parseCopies", inPlace := ["internal/bytealg.IndexByteString", "internal/bytealg.IndexString"], unfollowed := true, recurses := true, named := ["unicode/utf8.first", "unicode/utf8.acceptRanges", "internal/bytealg.MaxLen"], apart := false, laid := [("unicode/utf8.acceptRanges", laid_unicode_utf8_acceptRanges), ("unicode/utf8.first", laid_unicode_utf8_first)] }
def ParseCopiesSaid : Prop := parseCopiesRow.holds Tryd.pinned (OpenSpec.ofChange parseCopiesSpec)

/-- ITS FALSE NEIGHBOUR: 'it returns false'. Refute it at one input. -/
def parseCopiesWrong : ChangeSpec := { name := "parseCopies", fn := fun _ => fun
  | [d1, d2, d3] => { results := [.lit (.bool false)], args := [d1, d2, d3] }
  | _ => none }
def ParseCopiesWrongFalsely : Prop := parseCopiesRow.holds Tryd.pinned (OpenSpec.ofChange parseCopiesWrong)

/-- 'marqueelaw04.ParseNone': WHATEVER THE INPUT: true; the input reads as it did. -/
def parseNoneSpec : ChangeSpec := { name := "parseNone", fn := fun _ => fun
  | [d1, d2] => { results := [.lit (.bool true)], args := [d1, d2] }
  | _ => none }
def parseNoneRow : OpenClaim := { program := "ytmmkcfjncpcabaadoor", sum := "d6d67d779c666497697ce14dc21a8ae2a94e5ec877d44acc4172ee4a426ccb44", func := "marquee/marqueelaw04.ParseNone", spec := "parseNone", inPlace := ["internal/bytealg.IndexByteString", "internal/bytealg.IndexString"], unfollowed := true, recurses := true, named := ["unicode/utf8.first", "unicode/utf8.acceptRanges", "internal/bytealg.MaxLen"], apart := false, laid := [("unicode/utf8.acceptRanges", laid_unicode_utf8_acceptRanges), ("unicode/utf8.first", laid_unicode_utf8_first)] }
def ParseNoneSaid : Prop := parseNoneRow.holds Tryd.pinned (OpenSpec.ofChange parseNoneSpec)

/-- ITS FALSE NEIGHBOUR: 'it returns false'. Refute it at one input. -/
def parseNoneWrong : ChangeSpec := { name := "parseNone", fn := fun _ => fun
  | [d1, d2] => { results := [.lit (.bool false)], args := [d1, d2] }
  | _ => none }
def ParseNoneWrongFalsely : Prop := parseNoneRow.holds Tryd.pinned (OpenSpec.ofChange parseNoneWrong)

/- THE SECOND FORM. 'bulk': how many values and letters a reading holds, each counted each time it is reached (what is shared counts as often as it is met; a slice's spare places count too). A statement '..UptoSaid' is the law's where the arguments, and the package variables that the reading takes, are together of bulk at most 1048576: NARROWER than '..Said'. Prove '..Said' where nothing that the law and all that it calls make is longer than what came in: it says more and counts as full. Else prove '..UptoSaid'. A law counts once. -/
mutual
def uptoBulk {H : Type} : DataW H → Nat
  | .lit (.string bytes) => bytes.length + 1
  | .lit _ => 1
  | .nil => 1
  | .ptr d => uptoBulk d + 1
  | .slice elems spare => uptoBulkAll elems + uptoBulkAll spare + 1
  | .agg parts => uptoBulkAll parts + 1
  | .iface _ d => uptoBulk d + 1
  | .map entries => uptoBulkEntries entries + 1
  | .held _ => 1
def uptoBulkAll {H : Type} : List (DataW H) → Nat
  | [] => 0
  | d :: r => uptoBulk d + uptoBulkAll r
def uptoBulkEntries {H : Type} : List (Lit × DataW H) → Nat
  | [] => 0
  | x :: r => uptoBulkEntry x + uptoBulkEntries r
def uptoBulkEntry {H : Type} : Lit × DataW H → Nat
  | (.string bytes, d) => bytes.length + uptoBulk d + 1
  | (_, d) => uptoBulk d + 1
 end
def uptoSmall : (H : Type) → List (DataW H) → Bool := fun _ ds => decide (uptoBulkAll ds ≤ 1048576)
def OpenSpec.upto (s : _root_.Go.ChangeSpec) : _root_.Go.OpenSpec := { _root_.Go.OpenSpec.ofChange s with cond := some uptoSmall }

/-- 'marqueelaw04.ParseAll', WHERE WHAT IT READS IS OF BULK AT MOST 1048576: true; the input reads as it did. -/
def parseAllUptoRow : OpenClaim := { program := "ytmmkcfjncpcabaadoor", sum := "d6d67d779c666497697ce14dc21a8ae2a94e5ec877d44acc4172ee4a426ccb44", func := "marquee/marqueelaw04.ParseAll", spec := "parseAll", inPlace := ["internal/bytealg.IndexByteString", "internal/bytealg.IndexString"], unfollowed := true, recurses := true, named := ["unicode/utf8.first", "unicode/utf8.acceptRanges", "internal/bytealg.MaxLen"], apart := false, laid := [("unicode/utf8.acceptRanges", laid_unicode_utf8_acceptRanges), ("unicode/utf8.first", laid_unicode_utf8_first)], narrowed := true }
def ParseAllUptoSaid : Prop := parseAllUptoRow.holds Tryd.pinned (OpenSpec.upto parseAllSpec)

/-- 'marqueelaw04.ParseSteps', WHERE WHAT IT READS IS OF BULK AT MOST 1048576: true; the input reads as it did. -/
def parseStepsUptoRow : OpenClaim := { program := "ytmmkcfjncpcabaadoor", sum := "d6d67d779c666497697ce14dc21a8ae2a94e5ec877d44acc4172ee4a426ccb44", func := "marquee/marqueelaw04.ParseSteps", spec := "parseSteps", inPlace := ["internal/bytealg.IndexByteString", "internal/bytealg.IndexString"], unfollowed := true, recurses := true, named := ["unicode/utf8.first", "unicode/utf8.acceptRanges", "internal/bytealg.MaxLen"], apart := false, laid := [("unicode/utf8.acceptRanges", laid_unicode_utf8_acceptRanges), ("unicode/utf8.first", laid_unicode_utf8_first)], narrowed := true }
def ParseStepsUptoSaid : Prop := parseStepsUptoRow.holds Tryd.pinned (OpenSpec.upto parseStepsSpec)

/-- 'marqueelaw04.ParseCuts', WHERE WHAT IT READS IS OF BULK AT MOST 1048576: true; the input reads as it did. -/
def parseCutsUptoRow : OpenClaim := { program := "ytmmkcfjncpcabaadoor", sum := "d6d67d779c666497697ce14dc21a8ae2a94e5ec877d44acc4172ee4a426ccb44", func := "marquee/marqueelaw04.ParseCuts", spec := "parseCuts", inPlace := ["internal/bytealg.IndexByteString", "internal/bytealg.IndexString"], unfollowed := true, recurses := true, named := ["unicode/utf8.first", "unicode/utf8.acceptRanges", "internal/bytealg.MaxLen"], apart := false, laid := [("unicode/utf8.acceptRanges", laid_unicode_utf8_acceptRanges), ("unicode/utf8.first", laid_unicode_utf8_first)], narrowed := true }
def ParseCutsUptoSaid : Prop := parseCutsUptoRow.holds Tryd.pinned (OpenSpec.upto parseCutsSpec)

/-- 'marqueelaw04.ParseHolds', WHERE WHAT IT READS IS OF BULK AT MOST 1048576: true; the input reads as it did. -/
def parseHoldsUptoRow : OpenClaim := { program := "ytmmkcfjncpcabaadoor", sum := "d6d67d779c666497697ce14dc21a8ae2a94e5ec877d44acc4172ee4a426ccb44", func := "marquee/marqueelaw04.ParseHolds", spec := "parseHolds", inPlace := ["internal/bytealg.IndexByteString", "internal/bytealg.IndexString"], unfollowed := true, recurses := true, named := ["unicode/utf8.first", "unicode/utf8.acceptRanges", "internal/bytealg.MaxLen"], apart := false, laid := [("unicode/utf8.acceptRanges", laid_unicode_utf8_acceptRanges), ("unicode/utf8.first", laid_unicode_utf8_first)], narrowed := true }
def ParseHoldsUptoSaid : Prop := parseHoldsUptoRow.holds Tryd.pinned (OpenSpec.upto parseHoldsSpec)

/-- 'marqueelaw04.ParseCancels', WHERE WHAT IT READS IS OF BULK AT MOST 1048576: true; the input reads as it did. -/
def parseCancelsUptoRow : OpenClaim := { program := "ytmmkcfjncpcabaadoor", sum := "d6d67d779c666497697ce14dc21a8ae2a94e5ec877d44acc4172ee4a426ccb44", func := "marquee/marqueelaw04.ParseCancels", spec := "parseCancels", inPlace := ["internal/bytealg.IndexByteString", "internal/bytealg.IndexString"], unfollowed := true, recurses := true, named := ["unicode/utf8.first", "unicode/utf8.acceptRanges", "internal/bytealg.MaxLen"], apart := false, laid := [("unicode/utf8.acceptRanges", laid_unicode_utf8_acceptRanges), ("unicode/utf8.first", laid_unicode_utf8_first)], narrowed := true }
def ParseCancelsUptoSaid : Prop := parseCancelsUptoRow.holds Tryd.pinned (OpenSpec.upto parseCancelsSpec)

/-- 'marqueelaw04.ParseCopies', WHERE WHAT IT READS IS OF BULK AT MOST 1048576: true; the input reads as it did. -/
def parseCopiesUptoRow : OpenClaim := { program := "ytmmkcfjncpcabaadoor", sum := "d6d67d779c666497697ce14dc21a8ae2a94e5ec877d44acc4172ee4a426ccb44", func := "marquee/marqueelaw04.ParseCopies", spec := "parseCopies", inPlace := ["internal/bytealg.IndexByteString", "internal/bytealg.IndexString"], unfollowed := true, recurses := true, named := ["unicode/utf8.first", "unicode/utf8.acceptRanges", "internal/bytealg.MaxLen"], apart := false, laid := [("unicode/utf8.acceptRanges", laid_unicode_utf8_acceptRanges), ("unicode/utf8.first", laid_unicode_utf8_first)], narrowed := true }
def ParseCopiesUptoSaid : Prop := parseCopiesUptoRow.holds Tryd.pinned (OpenSpec.upto parseCopiesSpec)

/-- 'marqueelaw04.ParseNone', WHERE WHAT IT READS IS OF BULK AT MOST 1048576: true; the input reads as it did. -/
def parseNoneUptoRow : OpenClaim := { program := "ytmmkcfjncpcabaadoor", sum := "d6d67d779c666497697ce14dc21a8ae2a94e5ec877d44acc4172ee4a426ccb44", func := "marquee/marqueelaw04.ParseNone", spec := "parseNone", inPlace := ["internal/bytealg.IndexByteString", "internal/bytealg.IndexString"], unfollowed := true, recurses := true, named := ["unicode/utf8.first", "unicode/utf8.acceptRanges", "internal/bytealg.MaxLen"], apart := false, laid := [("unicode/utf8.acceptRanges", laid_unicode_utf8_acceptRanges), ("unicode/utf8.first", laid_unicode_utf8_first)], narrowed := true }
def ParseNoneUptoSaid : Prop := parseNoneUptoRow.holds Tryd.pinned (OpenSpec.upto parseNoneSpec)

end Rows
end Go.Proofs.YtmmkcfjncpcabaaDoor
