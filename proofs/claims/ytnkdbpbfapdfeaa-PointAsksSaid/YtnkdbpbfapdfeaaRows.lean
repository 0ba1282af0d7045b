/-
  No cell of these rows narrows 'for every input' (looked for: loops, veiled, ifaces, maps, wideKeys, modest, calm, conditions, laid).
  DERIVED. THE GIVEN ROWS OF THIS SEAT. 5 by the template 'for every input the law returns true; each argument reads behind the call as it read before'; 0 by the template 'total and deterministic' (their statements: YtnkdbpbfapdfeaaTotals.lean).
  GIVEN WITH THE SEED: the statements are not yours to turn. If you find one false, say at which input.
  Laid BY PROGRAM, IN A SANDBOX (cutbox-rows.mjs): the forced cells as the released guide's own fill.sh prints them over the translation 024c0cfb715380c5… (all of the seat's roots in one cut). By AI agents, Wed Nov 11 2026. No macro, syntax, notation, axiom, sorry.
-/
import Derived.Test.YtnkdbpbfapdfeaaChecked
import GoSem.Claim
import GoSem.ClaimJoined
import GoSem.ClaimMapViews
import Derived.JoinedTies
import Derived.KernelRfl
namespace Go.Proofs.Ytnkdbpbfapdfeaa
/- THE CELL 'sum', in the pinned program and in every row, IS THE sha256 OF THE DUMP (.gsa) THAT YtnkdbpbfapdfeaaProg.lean LOADS. Nothing in Lean hashes anything: it is a label: what it is worth is what the hold of that sum in a sandbox is worth. -/
noncomputable def Try.pinned : Pinned := { name := "ytnkdbpbfapdfeaa", sum := "024c0cfb715380c55abc57bab953d211d8be10ee52d7b534b6317979f2f9fc6c", checked := Try.checked }
namespace Rows
def none {H : Type} : Left H := { results := [], args := [] }

/-- 'marqueelaw20.PointPlays': WHATEVER THE INPUT: true; the input reads as it did. -/
def pointPlaysSpec : ChangeSpec := { name := "pointPlays", fn := fun _ => fun
  | [d1, d2] => { results := [.lit (.bool true)], args := [d1, d2] }
  | _ => none }
def pointPlaysRow : OpenClaim := { program := "ytnkdbpbfapdfeaa", sum := "024c0cfb715380c55abc57bab953d211d8be10ee52d7b534b6317979f2f9fc6c", func := "marquee/marqueelaw20.PointPlays", spec := "pointPlays", unfollowed := true, recurses := true, apart := false }
def PointPlaysSaid : Prop := pointPlaysRow.holds Try.pinned (OpenSpec.ofChange pointPlaysSpec)

/-- ITS FALSE NEIGHBOUR: 'it returns false'. Refute it at one input. -/
def pointPlaysWrong : ChangeSpec := { name := "pointPlays", fn := fun _ => fun
  | [d1, d2] => { results := [.lit (.bool false)], args := [d1, d2] }
  | _ => none }
def PointPlaysWrongFalsely : Prop := pointPlaysRow.holds Try.pinned (OpenSpec.ofChange pointPlaysWrong)

/-- 'marqueelaw20.PointPuts': WHATEVER THE INPUT: true; the input reads as it did. -/
def pointPutsSpec : ChangeSpec := { name := "pointPuts", fn := fun _ => fun
  | [d1, d2, d3] => { results := [.lit (.bool true)], args := [d1, d2, d3] }
  | _ => none }
def pointPutsRow : OpenClaim := { program := "ytnkdbpbfapdfeaa", sum := "024c0cfb715380c55abc57bab953d211d8be10ee52d7b534b6317979f2f9fc6c", func := "marquee/marqueelaw20.PointPuts", spec := "pointPuts", unfollowed := true, recurses := true, apart := false }
def PointPutsSaid : Prop := pointPutsRow.holds Try.pinned (OpenSpec.ofChange pointPutsSpec)

/-- ITS FALSE NEIGHBOUR: 'it returns false'. Refute it at one input. -/
def pointPutsWrong : ChangeSpec := { name := "pointPuts", fn := fun _ => fun
  | [d1, d2, d3] => { results := [.lit (.bool false)], args := [d1, d2, d3] }
  | _ => none }
def PointPutsWrongFalsely : Prop := pointPutsRow.holds Try.pinned (OpenSpec.ofChange pointPutsWrong)

/-- 'marqueelaw20.PointAsks': WHATEVER THE INPUT: true; the input reads as it did. -/
def pointAsksSpec : ChangeSpec := { name := "pointAsks", fn := fun _ => fun
  | [d1, d2, d3] => { results := [.lit (.bool true)], args := [d1, d2, d3] }
  | _ => none }
def pointAsksRow : OpenClaim := { program := "ytnkdbpbfapdfeaa", sum := "024c0cfb715380c55abc57bab953d211d8be10ee52d7b534b6317979f2f9fc6c", func := "marquee/marqueelaw20.PointAsks", spec := "pointAsks", unfollowed := true, recurses := true, apart := false }
def PointAsksSaid : Prop := pointAsksRow.holds Try.pinned (OpenSpec.ofChange pointAsksSpec)

/-- ITS FALSE NEIGHBOUR: 'it returns false'. Refute it at one input. -/
def pointAsksWrong : ChangeSpec := { name := "pointAsks", fn := fun _ => fun
  | [d1, d2, d3] => { results := [.lit (.bool false)], args := [d1, d2, d3] }
  | _ => none }
def PointAsksWrongFalsely : Prop := pointAsksRow.holds Try.pinned (OpenSpec.ofChange pointAsksWrong)

/-- 'marqueelaw20.PointBounds': WHATEVER THE INPUT: true; the input reads as it did. -/
def pointBoundsSpec : ChangeSpec := { name := "pointBounds", fn := fun _ => fun
  | [d1, d2, d3] => { results := [.lit (.bool true)], args := [d1, d2, d3] }
  | _ => none }
def pointBoundsRow : OpenClaim := { program := "ytnkdbpbfapdfeaa", sum := "024c0cfb715380c55abc57bab953d211d8be10ee52d7b534b6317979f2f9fc6c", func := "marquee/marqueelaw20.PointBounds", spec := "pointBounds", unfollowed := true, recurses := true, apart := false }
def PointBoundsSaid : Prop := pointBoundsRow.holds Try.pinned (OpenSpec.ofChange pointBoundsSpec)

/-- ITS FALSE NEIGHBOUR: 'it returns false'. Refute it at one input. -/
def pointBoundsWrong : ChangeSpec := { name := "pointBounds", fn := fun _ => fun
  | [d1, d2, d3] => { results := [.lit (.bool false)], args := [d1, d2, d3] }
  | _ => none }
def PointBoundsWrongFalsely : Prop := pointBoundsRow.holds Try.pinned (OpenSpec.ofChange pointBoundsWrong)

/-- 'marqueelaw20.PointNone': WHATEVER THE INPUT: true; the input reads as it did. -/
def pointNoneSpec : ChangeSpec := { name := "pointNone", fn := fun _ => fun
  | [d1, d2, d3] => { results := [.lit (.bool true)], args := [d1, d2, d3] }
  | _ => none }
def pointNoneRow : OpenClaim := { program := "ytnkdbpbfapdfeaa", sum := "024c0cfb715380c55abc57bab953d211d8be10ee52d7b534b6317979f2f9fc6c", func := "marquee/marqueelaw20.PointNone", spec := "pointNone", unfollowed := true, recurses := true, apart := false }
def PointNoneSaid : Prop := pointNoneRow.holds Try.pinned (OpenSpec.ofChange pointNoneSpec)

/-- ITS FALSE NEIGHBOUR: 'it returns false'. Refute it at one input. -/
def pointNoneWrong : ChangeSpec := { name := "pointNone", fn := fun _ => fun
  | [d1, d2, d3] => { results := [.lit (.bool false)], args := [d1, d2, d3] }
  | _ => none }
def PointNoneWrongFalsely : Prop := pointNoneRow.holds Try.pinned (OpenSpec.ofChange pointNoneWrong)

/- THE SECOND FORM. 'bulk': how many values and letters a reading holds, each counted each time it is reached (what is shared counts as often as it is met; a slice's spare places count too). A statement '..UptoSaid' is the law's where the arguments, and the package variables that the reading takes, are together of bulk at most 1048576: NARROWER than '..Said'. Prove '..Said' where nothing that the law and all that it calls make is longer than what came in: it says more and counts as full. Else prove '..UptoSaid'. A law counts once. -/
mutual
def uptoBulk {H : Type} : DataW H → Nat
  | .lit (.string bytes) => bytes.length + 1
  | .lit _ => 1
  | .nil => 1
  | .ptr d => uptoBulk d + 1
  | .slice elems spare => uptoBulkAll elems + uptoBulkAll spare + 1
  | .agg parts => uptoBulkAll parts + 1
  | .iface _ d => uptoBulk d + 1
  | .map entries => uptoBulkEntries entries + 1
  | .held _ => 1
def uptoBulkAll {H : Type} : List (DataW H) → Nat
  | [] => 0
  | d :: r => uptoBulk d + uptoBulkAll r
def uptoBulkEntries {H : Type} : List (Lit × DataW H) → Nat
  | [] => 0
  | x :: r => uptoBulkEntry x + uptoBulkEntries r
def uptoBulkEntry {H : Type} : Lit × DataW H → Nat
  | (.string bytes, d) => bytes.length + uptoBulk d + 1
  | (_, d) => uptoBulk d + 1
 end
def uptoSmall : (H : Type) → List (DataW H) → Bool := fun _ ds => decide (uptoBulkAll ds ≤ 1048576)
def OpenSpec.upto (s : _root_.Go.ChangeSpec) : _root_.Go.OpenSpec := { _root_.Go.OpenSpec.ofChange s with cond := some uptoSmall }

/-- 'marqueelaw20.PointPlays', WHERE WHAT IT READS IS OF BULK AT MOST 1048576: true; the input reads as it did. -/
def pointPlaysUptoRow : OpenClaim := { program := "ytnkdbpbfapdfeaa", sum := "024c0cfb715380c55abc57bab953d211d8be10ee52d7b534b6317979f2f9fc6c", func := "marquee/marqueelaw20.PointPlays", spec := "pointPlays", unfollowed := true, recurses := true, apart := false, narrowed := true }
def PointPlaysUptoSaid : Prop := pointPlaysUptoRow.holds Try.pinned (OpenSpec.upto pointPlaysSpec)

/-- 'marqueelaw20.PointPuts', WHERE WHAT IT READS IS OF BULK AT MOST 1048576: true; the input reads as it did. -/
def pointPutsUptoRow : OpenClaim := { program := "ytnkdbpbfapdfeaa", sum := "024c0cfb715380c55abc57bab953d211d8be10ee52d7b534b6317979f2f9fc6c", func := "marquee/marqueelaw20.PointPuts", spec := "pointPuts", unfollowed := true, recurses := true, apart := false, narrowed := true }
def PointPutsUptoSaid : Prop := pointPutsUptoRow.holds Try.pinned (OpenSpec.upto pointPutsSpec)

/-- 'marqueelaw20.PointAsks', WHERE WHAT IT READS IS OF BULK AT MOST 1048576: true; the input reads as it did. -/
def pointAsksUptoRow : OpenClaim := { program := "ytnkdbpbfapdfeaa", sum := "024c0cfb715380c55abc57bab953d211d8be10ee52d7b534b6317979f2f9fc6c", func := "marquee/marqueelaw20.PointAsks", spec := "pointAsks", unfollowed := true, recurses := true, apart := false, narrowed := true }
def PointAsksUptoSaid : Prop := pointAsksUptoRow.holds Try.pinned (OpenSpec.upto pointAsksSpec)

/-- 'marqueelaw20.PointBounds', WHERE WHAT IT READS IS OF BULK AT MOST 1048576: true; the input reads as it did. -/
def pointBoundsUptoRow : OpenClaim := { program := "ytnkdbpbfapdfeaa", sum := "024c0cfb715380c55abc57bab953d211d8be10ee52d7b534b6317979f2f9fc6c", func := "marquee/marqueelaw20.PointBounds", spec := "pointBounds", unfollowed := true, recurses := true, apart := false, narrowed := true }
def PointBoundsUptoSaid : Prop := pointBoundsUptoRow.holds Try.pinned (OpenSpec.upto pointBoundsSpec)

/-- 'marqueelaw20.PointNone', WHERE WHAT IT READS IS OF BULK AT MOST 1048576: true; the input reads as it did. -/
def pointNoneUptoRow : OpenClaim := { program := "ytnkdbpbfapdfeaa", sum := "024c0cfb715380c55abc57bab953d211d8be10ee52d7b534b6317979f2f9fc6c", func := "marquee/marqueelaw20.PointNone", spec := "pointNone", unfollowed := true, recurses := true, apart := false, narrowed := true }
def PointNoneUptoSaid : Prop := pointNoneUptoRow.holds Try.pinned (OpenSpec.upto pointNoneSpec)

end Rows
end Go.Proofs.Ytnkdbpbfapdfeaa
