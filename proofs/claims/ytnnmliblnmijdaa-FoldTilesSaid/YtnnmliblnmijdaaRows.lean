/-
  No cell of these rows narrows 'for every input' (looked for: loops, veiled, ifaces, maps, wideKeys, modest, calm, conditions, laid).
  DERIVED. THE GIVEN ROWS OF THIS SEAT. 5 by the template 'for every input the law returns true; each argument reads behind the call as it read before'; 0 by the template 'total and deterministic' (their statements: YtnnmliblnmijdaaTotals.lean).
  GIVEN WITH THE SEED: the statements are not yours to turn. If you find one false, say at which input.
  Laid BY PROGRAM, IN A SANDBOX (cutbox-rows.mjs): the forced cells as the released guide's own fill.sh prints them over the translation db8b7b032f4e765b… (all of the seat's roots in one cut). By AI agents, Wed Nov 11 2026. No macro, syntax, notation, axiom, sorry.
-/
import Derived.Test.YtnnmliblnmijdaaChecked
import GoSem.Claim
import GoSem.ClaimJoined
import GoSem.ClaimMapViews
import Derived.JoinedTies
import Derived.KernelRfl
namespace Go.Proofs.Ytnnmliblnmijdaa
/- THE CELL 'sum', in the pinned program and in every row, IS THE sha256 OF THE DUMP (.gsa) THAT YtnnmliblnmijdaaProg.lean LOADS. Nothing in Lean hashes anything: it is a label: what it is worth is what the hold of that sum in a sandbox is worth. -/
noncomputable def Try.pinned : Pinned := { name := "ytnnmliblnmijdaa", sum := "db8b7b032f4e765ba11b3a50743f6c730d61b5e32124cdb89150f2b2c31b01f9", checked := Try.checked }
namespace Rows
def none {H : Type} : Left H := { results := [], args := [] }

/-- 'marqueelaw24.FoldLays': WHATEVER THE INPUT: true; the input reads as it did. -/
def foldLaysSpec : ChangeSpec := { name := "foldLays", fn := fun _ => fun
  | [d1, d2] => { results := [.lit (.bool true)], args := [d1, d2] }
  | _ => none }
def foldLaysRow : OpenClaim := { program := "ytnnmliblnmijdaa", sum := "db8b7b032f4e765ba11b3a50743f6c730d61b5e32124cdb89150f2b2c31b01f9", func := "marquee/marqueelaw24.FoldLays", spec := "foldLays", apart := false }
def FoldLaysSaid : Prop := foldLaysRow.holds Try.pinned (OpenSpec.ofChange foldLaysSpec)

/-- ITS FALSE NEIGHBOUR: 'it returns false'. Refute it at one input. -/
def foldLaysWrong : ChangeSpec := { name := "foldLays", fn := fun _ => fun
  | [d1, d2] => { results := [.lit (.bool false)], args := [d1, d2] }
  | _ => none }
def FoldLaysWrongFalsely : Prop := foldLaysRow.holds Try.pinned (OpenSpec.ofChange foldLaysWrong)

/-- 'marqueelaw24.FoldFinds': WHATEVER THE INPUT: true; the input reads as it did. -/
def foldFindsSpec : ChangeSpec := { name := "foldFinds", fn := fun _ => fun
  | [d1, d2] => { results := [.lit (.bool true)], args := [d1, d2] }
  | _ => none }
def foldFindsRow : OpenClaim := { program := "ytnnmliblnmijdaa", sum := "db8b7b032f4e765ba11b3a50743f6c730d61b5e32124cdb89150f2b2c31b01f9", func := "marquee/marqueelaw24.FoldFinds", spec := "foldFinds", unfollowed := true, recurses := true, apart := false }
def FoldFindsSaid : Prop := foldFindsRow.holds Try.pinned (OpenSpec.ofChange foldFindsSpec)

/-- ITS FALSE NEIGHBOUR: 'it returns false'. Refute it at one input. -/
def foldFindsWrong : ChangeSpec := { name := "foldFinds", fn := fun _ => fun
  | [d1, d2] => { results := [.lit (.bool false)], args := [d1, d2] }
  | _ => none }
def FoldFindsWrongFalsely : Prop := foldFindsRow.holds Try.pinned (OpenSpec.ofChange foldFindsWrong)

/-- 'marqueelaw24.FoldWindows': WHATEVER THE INPUT: true; the input reads as it did. -/
def foldWindowsSpec : ChangeSpec := { name := "foldWindows", fn := fun _ => fun
  | [d1, d2, d3] => { results := [.lit (.bool true)], args := [d1, d2, d3] }
  | _ => none }
def foldWindowsRow : OpenClaim := { program := "ytnnmliblnmijdaa", sum := "db8b7b032f4e765ba11b3a50743f6c730d61b5e32124cdb89150f2b2c31b01f9", func := "marquee/marqueelaw24.FoldWindows", spec := "foldWindows", apart := false }
def FoldWindowsSaid : Prop := foldWindowsRow.holds Try.pinned (OpenSpec.ofChange foldWindowsSpec)

/-- ITS FALSE NEIGHBOUR: 'it returns false'. Refute it at one input. -/
def foldWindowsWrong : ChangeSpec := { name := "foldWindows", fn := fun _ => fun
  | [d1, d2, d3] => { results := [.lit (.bool false)], args := [d1, d2, d3] }
  | _ => none }
def FoldWindowsWrongFalsely : Prop := foldWindowsRow.holds Try.pinned (OpenSpec.ofChange foldWindowsWrong)

/-- 'marqueelaw24.FoldCleans': WHATEVER THE INPUT: true; the input reads as it did. -/
def foldCleansSpec : ChangeSpec := { name := "foldCleans", fn := fun _ => fun
  | [d1, d2] => { results := [.lit (.bool true)], args := [d1, d2] }
  | _ => none }
def foldCleansRow : OpenClaim := { program := "ytnnmliblnmijdaa", sum := "db8b7b032f4e765ba11b3a50743f6c730d61b5e32124cdb89150f2b2c31b01f9", func := "marquee/marqueelaw24.FoldCleans", spec := "foldCleans", apart := false }
def FoldCleansSaid : Prop := foldCleansRow.holds Try.pinned (OpenSpec.ofChange foldCleansSpec)

/-- ITS FALSE NEIGHBOUR: 'it returns false'. Refute it at one input. -/
def foldCleansWrong : ChangeSpec := { name := "foldCleans", fn := fun _ => fun
  | [d1, d2] => { results := [.lit (.bool false)], args := [d1, d2] }
  | _ => none }
def FoldCleansWrongFalsely : Prop := foldCleansRow.holds Try.pinned (OpenSpec.ofChange foldCleansWrong)

/-- 'marqueelaw24.FoldTiles': WHATEVER THE INPUT: true; the input reads as it did. -/
def foldTilesSpec : ChangeSpec := { name := "foldTiles", fn := fun _ => fun
  | [d1, d2] => { results := [.lit (.bool true)], args := [d1, d2] }
  | _ => none }
def foldTilesRow : OpenClaim := { program := "ytnnmliblnmijdaa", sum := "db8b7b032f4e765ba11b3a50743f6c730d61b5e32124cdb89150f2b2c31b01f9", func := "marquee/marqueelaw24.FoldTiles", spec := "foldTiles", unfollowed := true, recurses := true, apart := false }
def FoldTilesSaid : Prop := foldTilesRow.holds Try.pinned (OpenSpec.ofChange foldTilesSpec)

/-- ITS FALSE NEIGHBOUR: 'it returns false'. Refute it at one input. -/
def foldTilesWrong : ChangeSpec := { name := "foldTiles", fn := fun _ => fun
  | [d1, d2] => { results := [.lit (.bool false)], args := [d1, d2] }
  | _ => none }
def FoldTilesWrongFalsely : Prop := foldTilesRow.holds Try.pinned (OpenSpec.ofChange foldTilesWrong)

/- THE SECOND FORM. 'bulk': how many values and letters a reading holds, each counted each time it is reached (what is shared counts as often as it is met; a slice's spare places count too). A statement '..UptoSaid' is the law's where the arguments, and the package variables that the reading takes, are together of bulk at most 1048576: NARROWER than '..Said'. Prove '..Said' where nothing that the law and all that it calls make is longer than what came in: it says more and counts as full. Else prove '..UptoSaid'. A law counts once. -/
mutual
def uptoBulk {H : Type} : DataW H → Nat
  | .lit (.string bytes) => bytes.length + 1
  | .lit _ => 1
  | .nil => 1
  | .ptr d => uptoBulk d + 1
  | .slice elems spare => uptoBulkAll elems + uptoBulkAll spare + 1
  | .agg parts => uptoBulkAll parts + 1
  | .iface _ d => uptoBulk d + 1
  | .map entries => uptoBulkEntries entries + 1
  | .held _ => 1
def uptoBulkAll {H : Type} : List (DataW H) → Nat
  | [] => 0
  | d :: r => uptoBulk d + uptoBulkAll r
def uptoBulkEntries {H : Type} : List (Lit × DataW H) → Nat
  | [] => 0
  | x :: r => uptoBulkEntry x + uptoBulkEntries r
def uptoBulkEntry {H : Type} : Lit × DataW H → Nat
  | (.string bytes, d) => bytes.length + uptoBulk d + 1
  | (_, d) => uptoBulk d + 1
 end
def uptoSmall : (H : Type) → List (DataW H) → Bool := fun _ ds => decide (uptoBulkAll ds ≤ 1048576)
def OpenSpec.upto (s : _root_.Go.ChangeSpec) : _root_.Go.OpenSpec := { _root_.Go.OpenSpec.ofChange s with cond := some uptoSmall }

/-- 'marqueelaw24.FoldLays', WHERE WHAT IT READS IS OF BULK AT MOST 1048576: true; the input reads as it did. -/
def foldLaysUptoRow : OpenClaim := { program := "ytnnmliblnmijdaa", sum := "db8b7b032f4e765ba11b3a50743f6c730d61b5e32124cdb89150f2b2c31b01f9", func := "marquee/marqueelaw24.FoldLays", spec := "foldLays", apart := false, narrowed := true }
def FoldLaysUptoSaid : Prop := foldLaysUptoRow.holds Try.pinned (OpenSpec.upto foldLaysSpec)

/-- 'marqueelaw24.FoldFinds', WHERE WHAT IT READS IS OF BULK AT MOST 1048576: true; the input reads as it did. -/
def foldFindsUptoRow : OpenClaim := { program := "ytnnmliblnmijdaa", sum := "db8b7b032f4e765ba11b3a50743f6c730d61b5e32124cdb89150f2b2c31b01f9", func := "marquee/marqueelaw24.FoldFinds", spec := "foldFinds", unfollowed := true, recurses := true, apart := false, narrowed := true }
def FoldFindsUptoSaid : Prop := foldFindsUptoRow.holds Try.pinned (OpenSpec.upto foldFindsSpec)

/-- 'marqueelaw24.FoldWindows', WHERE WHAT IT READS IS OF BULK AT MOST 1048576: true; the input reads as it did. -/
def foldWindowsUptoRow : OpenClaim := { program := "ytnnmliblnmijdaa", sum := "db8b7b032f4e765ba11b3a50743f6c730d61b5e32124cdb89150f2b2c31b01f9", func := "marquee/marqueelaw24.FoldWindows", spec := "foldWindows", apart := false, narrowed := true }
def FoldWindowsUptoSaid : Prop := foldWindowsUptoRow.holds Try.pinned (OpenSpec.upto foldWindowsSpec)

/-- 'marqueelaw24.FoldCleans', WHERE WHAT IT READS IS OF BULK AT MOST 1048576: true; the input reads as it did. -/
def foldCleansUptoRow : OpenClaim := { program := "ytnnmliblnmijdaa", sum := "db8b7b032f4e765ba11b3a50743f6c730d61b5e32124cdb89150f2b2c31b01f9", func := "marquee/marqueelaw24.FoldCleans", spec := "foldCleans", apart := false, narrowed := true }
def FoldCleansUptoSaid : Prop := foldCleansUptoRow.holds Try.pinned (OpenSpec.upto foldCleansSpec)

/-- 'marqueelaw24.FoldTiles', WHERE WHAT IT READS IS OF BULK AT MOST 1048576: true; the input reads as it did. -/
def foldTilesUptoRow : OpenClaim := { program := "ytnnmliblnmijdaa", sum := "db8b7b032f4e765ba11b3a50743f6c730d61b5e32124cdb89150f2b2c31b01f9", func := "marquee/marqueelaw24.FoldTiles", spec := "foldTiles", unfollowed := true, recurses := true, apart := false, narrowed := true }
def FoldTilesUptoSaid : Prop := foldTilesUptoRow.holds Try.pinned (OpenSpec.upto foldTilesSpec)

end Rows
end Go.Proofs.Ytnnmliblnmijdaa
