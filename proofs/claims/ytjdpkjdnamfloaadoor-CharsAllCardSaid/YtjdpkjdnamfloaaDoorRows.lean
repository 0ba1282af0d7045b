/-
  NARROWER THAN 'FOR EVERY INPUT', by the rows' own cells (each row's printed sentence says how): CharsMaps: laid · CharsNames: laid · CharsLines: laid · CharsOnce: laid · CharsAll: laid.
  DERIVED. THE GIVEN ROWS OF THIS SEAT. 5 by the template 'for every input the law returns true; each argument reads behind the call as it read before'; 0 by the template 'total and deterministic' (their statements: YtjdpkjdnamfloaaDoorTotals.lean).
  GIVEN WITH THE SEED: the statements are not yours to turn. If you find one false, say at which input.
  Laid BY PROGRAM, IN A SANDBOX (cutbox-rows.mjs): the forced cells as the released guide's own fill.sh prints them over the translation 944816b387b205b0… (all of the seat's roots in one cut). By AI agents, Wed Nov 11 2026. No macro, syntax, notation, axiom, sorry.
-/
import Derived.Test.YtjdpkjdnamfloaaDoorChecked
import GoSem.Claim
import GoSem.ClaimJoined
import GoSem.ClaimMapViews
import Derived.JoinedTies
import Derived.KernelRfl
namespace Go.Proofs.YtjdpkjdnamfloaaDoor
/- THE CELL 'sum', in the pinned program and in every row, IS THE sha256 OF THE DUMP (.gsa) THAT YtjdpkjdnamfloaaDoorProg.lean LOADS. Nothing in Lean hashes anything: it is a label: what it is worth is what the hold of that sum in a sandbox is worth. -/
noncomputable def Tryd.pinned : Pinned := { name := "ytjdpkjdnamfloaadoor", sum := "944816b387b205b0e47870d90ae547bd9d96714b228db61fffd92d13ffff5160", checked := Tryd.checked }
namespace Rows
def none {H : Type} : Left H := { results := [], args := [] }

/- WHAT THE LISTED PACKAGE-LEVEL VARIABLES READ AS WHEN THE CALL BEGINS. Each datum BY PROGRAM (the guide's laid-datum.mjs) off the statement by which the dump's own 'gosem.cut.vars' lays the variable. In a bare row this is a premise. The card (YtjdpkjdnamfloaaDoorCards.lean) ties it to the program's text. -/
def laid_marquee_chars_drawn {H : Type} : DataW H := .agg [.lit (.int .i32 9670), .lit (.int .i32 9618), .lit (.int .i32 9225), .lit (.int .i32 9228), .lit (.int .i32 9229), .lit (.int .i32 9226), .lit (.int .i32 176), .lit (.int .i32 177), .lit (.int .i32 9252), .lit (.int .i32 9227), .lit (.int .i32 9496), .lit (.int .i32 9488), .lit (.int .i32 9484), .lit (.int .i32 9492), .lit (.int .i32 9532), .lit (.int .i32 9146), .lit (.int .i32 9147), .lit (.int .i32 9472), .lit (.int .i32 9148), .lit (.int .i32 9149), .lit (.int .i32 9500), .lit (.int .i32 9508), .lit (.int .i32 9524), .lit (.int .i32 9516), .lit (.int .i32 9474), .lit (.int .i32 8804), .lit (.int .i32 8805), .lit (.int .i32 960), .lit (.int .i32 8800), .lit (.int .i32 163), .lit (.int .i32 183)]

/-- 'marqueelaw06.CharsMaps': WHATEVER THE INPUT: true; the input reads as it did. -/
def charsMapsSpec : ChangeSpec := { name := "charsMaps", fn := fun _ => fun
  | [d1, d2] => { results := [.lit (.bool true)], args := [d1, d2] }
  | _ => none }
def charsMapsRow : OpenClaim := { program := "ytjdpkjdnamfloaadoor", sum := "944816b387b205b0e47870d90ae547bd9d96714b228db61fffd92d13ffff5160", func := "marquee/marqueelaw06.CharsMaps", spec := "charsMaps", inPlace := ["internal/bytealg.IndexByteString"], named := ["marquee/chars.drawn"], apart := false, laid := [("marquee/chars.drawn", laid_marquee_chars_drawn)] }
def CharsMapsSaid : Prop := charsMapsRow.holds Tryd.pinned (OpenSpec.ofChange charsMapsSpec)

/-- ITS FALSE NEIGHBOUR: 'it returns false'. Refute it at one input. -/
def charsMapsWrong : ChangeSpec := { name := "charsMaps", fn := fun _ => fun
  | [d1, d2] => { results := [.lit (.bool false)], args := [d1, d2] }
  | _ => none }
def CharsMapsWrongFalsely : Prop := charsMapsRow.holds Tryd.pinned (OpenSpec.ofChange charsMapsWrong)

/-- 'marqueelaw06.CharsNames': WHATEVER THE INPUT: true; the input reads as it did. -/
def charsNamesSpec : ChangeSpec := { name := "charsNames", fn := fun _ => fun
  | [d1, d2, d3] => { results := [.lit (.bool true)], args := [d1, d2, d3] }
  | _ => none }
def charsNamesRow : OpenClaim := { program := "ytjdpkjdnamfloaadoor", sum := "944816b387b205b0e47870d90ae547bd9d96714b228db61fffd92d13ffff5160", func := "marquee/marqueelaw06.CharsNames", spec := "charsNames", inPlace := ["internal/bytealg.IndexByteString"], named := ["marquee/chars.drawn"], apart := false, laid := [("marquee/chars.drawn", laid_marquee_chars_drawn)] }
def CharsNamesSaid : Prop := charsNamesRow.holds Tryd.pinned (OpenSpec.ofChange charsNamesSpec)

/-- ITS FALSE NEIGHBOUR: 'it returns false'. Refute it at one input. -/
def charsNamesWrong : ChangeSpec := { name := "charsNames", fn := fun _ => fun
  | [d1, d2, d3] => { results := [.lit (.bool false)], args := [d1, d2, d3] }
  | _ => none }
def CharsNamesWrongFalsely : Prop := charsNamesRow.holds Tryd.pinned (OpenSpec.ofChange charsNamesWrong)

/-- 'marqueelaw06.CharsLines': WHATEVER THE INPUT: true; the input reads as it did. -/
def charsLinesSpec : ChangeSpec := { name := "charsLines", fn := fun _ => fun
  | [d1, d2, d3] => { results := [.lit (.bool true)], args := [d1, d2, d3] }
  | _ => none }
def charsLinesRow : OpenClaim := { program := "ytjdpkjdnamfloaadoor", sum := "944816b387b205b0e47870d90ae547bd9d96714b228db61fffd92d13ffff5160", func := "marquee/marqueelaw06.CharsLines", spec := "charsLines", inPlace := ["internal/bytealg.IndexByteString"], named := ["marquee/chars.drawn"], apart := false, laid := [("marquee/chars.drawn", laid_marquee_chars_drawn)] }
def CharsLinesSaid : Prop := charsLinesRow.holds Tryd.pinned (OpenSpec.ofChange charsLinesSpec)

/-- ITS FALSE NEIGHBOUR: 'it returns false'. Refute it at one input. -/
def charsLinesWrong : ChangeSpec := { name := "charsLines", fn := fun _ => fun
  | [d1, d2, d3] => { results := [.lit (.bool false)], args := [d1, d2, d3] }
  | _ => none }
def CharsLinesWrongFalsely : Prop := charsLinesRow.holds Tryd.pinned (OpenSpec.ofChange charsLinesWrong)

/-- 'marqueelaw06.CharsOnce': WHATEVER THE INPUT: true; the input reads as it did. -/
def charsOnceSpec : ChangeSpec := { name := "charsOnce", fn := fun _ => fun
  | [d1, d2, d3] => { results := [.lit (.bool true)], args := [d1, d2, d3] }
  | _ => none }
def charsOnceRow : OpenClaim := { program := "ytjdpkjdnamfloaadoor", sum := "944816b387b205b0e47870d90ae547bd9d96714b228db61fffd92d13ffff5160", func := "marquee/marqueelaw06.CharsOnce", spec := "charsOnce", inPlace := ["internal/bytealg.IndexByteString"], named := ["marquee/chars.drawn"], apart := false, laid := [("marquee/chars.drawn", laid_marquee_chars_drawn)] }
def CharsOnceSaid : Prop := charsOnceRow.holds Tryd.pinned (OpenSpec.ofChange charsOnceSpec)

/-- ITS FALSE NEIGHBOUR: 'it returns false'. Refute it at one input. -/
def charsOnceWrong : ChangeSpec := { name := "charsOnce", fn := fun _ => fun
  | [d1, d2, d3] => { results := [.lit (.bool false)], args := [d1, d2, d3] }
  | _ => none }
def CharsOnceWrongFalsely : Prop := charsOnceRow.holds Tryd.pinned (OpenSpec.ofChange charsOnceWrong)

/-- 'marqueelaw06.CharsAll': WHATEVER THE INPUT: true; the input reads as it did. -/
def charsAllSpec : ChangeSpec := { name := "charsAll", fn := fun _ => fun
  | [d1, d2] => { results := [.lit (.bool true)], args := [d1, d2] }
  | _ => none }
def charsAllRow : OpenClaim := { program := "ytjdpkjdnamfloaadoor", sum := "944816b387b205b0e47870d90ae547bd9d96714b228db61fffd92d13ffff5160", func := "marquee/marqueelaw06.CharsAll", spec := "charsAll", inPlace := ["internal/bytealg.IndexByteString"], named := ["marquee/chars.drawn"], apart := false, laid := [("marquee/chars.drawn", laid_marquee_chars_drawn)] }
def CharsAllSaid : Prop := charsAllRow.holds Tryd.pinned (OpenSpec.ofChange charsAllSpec)

/-- ITS FALSE NEIGHBOUR: 'it returns false'. Refute it at one input. -/
def charsAllWrong : ChangeSpec := { name := "charsAll", fn := fun _ => fun
  | [d1, d2] => { results := [.lit (.bool false)], args := [d1, d2] }
  | _ => none }
def CharsAllWrongFalsely : Prop := charsAllRow.holds Tryd.pinned (OpenSpec.ofChange charsAllWrong)

/- THE SECOND FORM. 'bulk': how many values and letters a reading holds, each counted each time it is reached (what is shared counts as often as it is met; a slice's spare places count too). A statement '..UptoSaid' is the law's where the arguments, and the package variables that the reading takes, are together of bulk at most 1048576: NARROWER than '..Said'. Prove '..Said' where nothing that the law and all that it calls make is longer than what came in: it says more and counts as full. Else prove '..UptoSaid'. A law counts once. -/
mutual
def uptoBulk {H : Type} : DataW H → Nat
  | .lit (.string bytes) => bytes.length + 1
  | .lit _ => 1
  | .nil => 1
  | .ptr d => uptoBulk d + 1
  | .slice elems spare => uptoBulkAll elems + uptoBulkAll spare + 1
  | .agg parts => uptoBulkAll parts + 1
  | .iface _ d => uptoBulk d + 1
  | .map entries => uptoBulkEntries entries + 1
  | .held _ => 1
def uptoBulkAll {H : Type} : List (DataW H) → Nat
  | [] => 0
  | d :: r => uptoBulk d + uptoBulkAll r
def uptoBulkEntries {H : Type} : List (Lit × DataW H) → Nat
  | [] => 0
  | x :: r => uptoBulkEntry x + uptoBulkEntries r
def uptoBulkEntry {H : Type} : Lit × DataW H → Nat
  | (.string bytes, d) => bytes.length + uptoBulk d + 1
  | (_, d) => uptoBulk d + 1
 end
def uptoSmall : (H : Type) → List (DataW H) → Bool := fun _ ds => decide (uptoBulkAll ds ≤ 1048576)
def OpenSpec.upto (s : _root_.Go.ChangeSpec) : _root_.Go.OpenSpec := { _root_.Go.OpenSpec.ofChange s with cond := some uptoSmall }

/-- 'marqueelaw06.CharsMaps', WHERE WHAT IT READS IS OF BULK AT MOST 1048576: true; the input reads as it did. -/
def charsMapsUptoRow : OpenClaim := { program := "ytjdpkjdnamfloaadoor", sum := "944816b387b205b0e47870d90ae547bd9d96714b228db61fffd92d13ffff5160", func := "marquee/marqueelaw06.CharsMaps", spec := "charsMaps", inPlace := ["internal/bytealg.IndexByteString"], named := ["marquee/chars.drawn"], apart := false, laid := [("marquee/chars.drawn", laid_marquee_chars_drawn)], narrowed := true }
def CharsMapsUptoSaid : Prop := charsMapsUptoRow.holds Tryd.pinned (OpenSpec.upto charsMapsSpec)

/-- 'marqueelaw06.CharsNames', WHERE WHAT IT READS IS OF BULK AT MOST 1048576: true; the input reads as it did. -/
def charsNamesUptoRow : OpenClaim := { program := "ytjdpkjdnamfloaadoor", sum := "944816b387b205b0e47870d90ae547bd9d96714b228db61fffd92d13ffff5160", func := "marquee/marqueelaw06.CharsNames", spec := "charsNames", inPlace := ["internal/bytealg.IndexByteString"], named := ["marquee/chars.drawn"], apart := false, laid := [("marquee/chars.drawn", laid_marquee_chars_drawn)], narrowed := true }
def CharsNamesUptoSaid : Prop := charsNamesUptoRow.holds Tryd.pinned (OpenSpec.upto charsNamesSpec)

/-- 'marqueelaw06.CharsLines', WHERE WHAT IT READS IS OF BULK AT MOST 1048576: true; the input reads as it did. -/
def charsLinesUptoRow : OpenClaim := { program := "ytjdpkjdnamfloaadoor", sum := "944816b387b205b0e47870d90ae547bd9d96714b228db61fffd92d13ffff5160", func := "marquee/marqueelaw06.CharsLines", spec := "charsLines", inPlace := ["internal/bytealg.IndexByteString"], named := ["marquee/chars.drawn"], apart := false, laid := [("marquee/chars.drawn", laid_marquee_chars_drawn)], narrowed := true }
def CharsLinesUptoSaid : Prop := charsLinesUptoRow.holds Tryd.pinned (OpenSpec.upto charsLinesSpec)

/-- 'marqueelaw06.CharsOnce', WHERE WHAT IT READS IS OF BULK AT MOST 1048576: true; the input reads as it did. -/
def charsOnceUptoRow : OpenClaim := { program := "ytjdpkjdnamfloaadoor", sum := "944816b387b205b0e47870d90ae547bd9d96714b228db61fffd92d13ffff5160", func := "marquee/marqueelaw06.CharsOnce", spec := "charsOnce", inPlace := ["internal/bytealg.IndexByteString"], named := ["marquee/chars.drawn"], apart := false, laid := [("marquee/chars.drawn", laid_marquee_chars_drawn)], narrowed := true }
def CharsOnceUptoSaid : Prop := charsOnceUptoRow.holds Tryd.pinned (OpenSpec.upto charsOnceSpec)

/-- 'marqueelaw06.CharsAll', WHERE WHAT IT READS IS OF BULK AT MOST 1048576: true; the input reads as it did. -/
def charsAllUptoRow : OpenClaim := { program := "ytjdpkjdnamfloaadoor", sum := "944816b387b205b0e47870d90ae547bd9d96714b228db61fffd92d13ffff5160", func := "marquee/marqueelaw06.CharsAll", spec := "charsAll", inPlace := ["internal/bytealg.IndexByteString"], named := ["marquee/chars.drawn"], apart := false, laid := [("marquee/chars.drawn", laid_marquee_chars_drawn)], narrowed := true }
def CharsAllUptoSaid : Prop := charsAllUptoRow.holds Tryd.pinned (OpenSpec.upto charsAllSpec)

end Rows
end Go.Proofs.YtjdpkjdnamfloaaDoor
