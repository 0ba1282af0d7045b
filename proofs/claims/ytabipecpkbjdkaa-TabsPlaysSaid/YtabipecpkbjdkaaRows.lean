/-
  No cell of these rows narrows 'for every input' (looked for: loops, veiled, ifaces, maps, wideKeys, modest, calm, conditions, laid).
  DERIVED. THE GIVEN ROWS OF THIS SEAT. 5 by the template 'for every input the law returns true; each argument reads behind the call as it read before'; 0 by the template 'total and deterministic' (their statements: YtabipecpkbjdkaaTotals.lean).
  GIVEN WITH THE SEED: the statements are not yours to turn. If you find one false, say at which input.
  Laid BY PROGRAM, IN A SANDBOX (cutbox-rows.mjs): the forced cells as the released guide's own fill.sh prints them over the translation 2f5ab7fd5ee3dcd7… (all of the seat's roots in one cut). By AI agents, Wed Nov 11 2026. No macro, syntax, notation, axiom, sorry.
-/
import Derived.Test.YtabipecpkbjdkaaChecked
import GoSem.Claim
import GoSem.ClaimJoined
import GoSem.ClaimMapViews
import Derived.JoinedTies
import Derived.KernelRfl
namespace Go.Proofs.Ytabipecpkbjdkaa
/- THE CELL 'sum', in the pinned program and in every row, IS THE sha256 OF THE DUMP (.gsa) THAT YtabipecpkbjdkaaProg.lean LOADS. Nothing in Lean hashes anything: it is a label: what it is worth is what the hold of that sum in a sandbox is worth. -/
noncomputable def Try.pinned : Pinned := { name := "ytabipecpkbjdkaa", sum := "2f5ab7fd5ee3dcd79a2e17c7185d81d38fe2b47c4a44084f0f1fe550326fbce7", checked := Try.checked }
namespace Rows
def none {H : Type} : Left H := { results := [], args := [] }

/-- 'marqueelaw11.TabsPlays': WHATEVER THE INPUT: true; the input reads as it did. -/
def tabsPlaysSpec : ChangeSpec := { name := "tabsPlays", fn := fun _ => fun
  | [d1, d2] => { results := [.lit (.bool true)], args := [d1, d2] }
  | _ => none }
def tabsPlaysRow : OpenClaim := { program := "ytabipecpkbjdkaa", sum := "2f5ab7fd5ee3dcd79a2e17c7185d81d38fe2b47c4a44084f0f1fe550326fbce7", func := "marquee/marqueelaw11.TabsPlays", spec := "tabsPlays", unfollowed := true, recurses := true, apart := false }
def TabsPlaysSaid : Prop := tabsPlaysRow.holds Try.pinned (OpenSpec.ofChange tabsPlaysSpec)

/-- ITS FALSE NEIGHBOUR: 'it returns false'. Refute it at one input. -/
def tabsPlaysWrong : ChangeSpec := { name := "tabsPlays", fn := fun _ => fun
  | [d1, d2] => { results := [.lit (.bool false)], args := [d1, d2] }
  | _ => none }
def TabsPlaysWrongFalsely : Prop := tabsPlaysRow.holds Try.pinned (OpenSpec.ofChange tabsPlaysWrong)

/-- 'marqueelaw11.TabsGoes': WHATEVER THE INPUT: true; the input reads as it did. -/
def tabsGoesSpec : ChangeSpec := { name := "tabsGoes", fn := fun _ => fun
  | [d1, d2, d3] => { results := [.lit (.bool true)], args := [d1, d2, d3] }
  | _ => none }
def tabsGoesRow : OpenClaim := { program := "ytabipecpkbjdkaa", sum := "2f5ab7fd5ee3dcd79a2e17c7185d81d38fe2b47c4a44084f0f1fe550326fbce7", func := "marquee/marqueelaw11.TabsGoes", spec := "tabsGoes", unfollowed := true, recurses := true, apart := false }
def TabsGoesSaid : Prop := tabsGoesRow.holds Try.pinned (OpenSpec.ofChange tabsGoesSpec)

/-- ITS FALSE NEIGHBOUR: 'it returns false'. Refute it at one input. -/
def tabsGoesWrong : ChangeSpec := { name := "tabsGoes", fn := fun _ => fun
  | [d1, d2, d3] => { results := [.lit (.bool false)], args := [d1, d2, d3] }
  | _ => none }
def TabsGoesWrongFalsely : Prop := tabsGoesRow.holds Try.pinned (OpenSpec.ofChange tabsGoesWrong)

/-- 'marqueelaw11.TabsSteps': WHATEVER THE INPUT: true; the input reads as it did. -/
def tabsStepsSpec : ChangeSpec := { name := "tabsSteps", fn := fun _ => fun
  | [d1, d2, d3] => { results := [.lit (.bool true)], args := [d1, d2, d3] }
  | _ => none }
def tabsStepsRow : OpenClaim := { program := "ytabipecpkbjdkaa", sum := "2f5ab7fd5ee3dcd79a2e17c7185d81d38fe2b47c4a44084f0f1fe550326fbce7", func := "marquee/marqueelaw11.TabsSteps", spec := "tabsSteps", unfollowed := true, recurses := true, apart := false }
def TabsStepsSaid : Prop := tabsStepsRow.holds Try.pinned (OpenSpec.ofChange tabsStepsSpec)

/-- ITS FALSE NEIGHBOUR: 'it returns false'. Refute it at one input. -/
def tabsStepsWrong : ChangeSpec := { name := "tabsSteps", fn := fun _ => fun
  | [d1, d2, d3] => { results := [.lit (.bool false)], args := [d1, d2, d3] }
  | _ => none }
def TabsStepsWrongFalsely : Prop := tabsStepsRow.holds Try.pinned (OpenSpec.ofChange tabsStepsWrong)

/-- 'marqueelaw11.TabsNone': WHATEVER THE INPUT: true; the input reads as it did. -/
def tabsNoneSpec : ChangeSpec := { name := "tabsNone", fn := fun _ => fun
  | [d1, d2, d3] => { results := [.lit (.bool true)], args := [d1, d2, d3] }
  | _ => none }
def tabsNoneRow : OpenClaim := { program := "ytabipecpkbjdkaa", sum := "2f5ab7fd5ee3dcd79a2e17c7185d81d38fe2b47c4a44084f0f1fe550326fbce7", func := "marquee/marqueelaw11.TabsNone", spec := "tabsNone", unfollowed := true, recurses := true, apart := false }
def TabsNoneSaid : Prop := tabsNoneRow.holds Try.pinned (OpenSpec.ofChange tabsNoneSpec)

/-- ITS FALSE NEIGHBOUR: 'it returns false'. Refute it at one input. -/
def tabsNoneWrong : ChangeSpec := { name := "tabsNone", fn := fun _ => fun
  | [d1, d2, d3] => { results := [.lit (.bool false)], args := [d1, d2, d3] }
  | _ => none }
def TabsNoneWrongFalsely : Prop := tabsNoneRow.holds Try.pinned (OpenSpec.ofChange tabsNoneWrong)

/-- 'marqueelaw11.TabsHas': WHATEVER THE INPUT: true; the input reads as it did. -/
def tabsHasSpec : ChangeSpec := { name := "tabsHas", fn := fun _ => fun
  | [d1, d2, d3] => { results := [.lit (.bool true)], args := [d1, d2, d3] }
  | _ => none }
def tabsHasRow : OpenClaim := { program := "ytabipecpkbjdkaa", sum := "2f5ab7fd5ee3dcd79a2e17c7185d81d38fe2b47c4a44084f0f1fe550326fbce7", func := "marquee/marqueelaw11.TabsHas", spec := "tabsHas", unfollowed := true, recurses := true, apart := false }
def TabsHasSaid : Prop := tabsHasRow.holds Try.pinned (OpenSpec.ofChange tabsHasSpec)

/-- ITS FALSE NEIGHBOUR: 'it returns false'. Refute it at one input. -/
def tabsHasWrong : ChangeSpec := { name := "tabsHas", fn := fun _ => fun
  | [d1, d2, d3] => { results := [.lit (.bool false)], args := [d1, d2, d3] }
  | _ => none }
def TabsHasWrongFalsely : Prop := tabsHasRow.holds Try.pinned (OpenSpec.ofChange tabsHasWrong)

/- THE SECOND FORM. 'bulk': how many values and letters a reading holds, each counted each time it is reached (what is shared counts as often as it is met; a slice's spare places count too). A statement '..UptoSaid' is the law's where the arguments, and the package variables that the reading takes, are together of bulk at most 1048576: NARROWER than '..Said'. Prove '..Said' where nothing that the law and all that it calls make is longer than what came in: it says more and counts as full. Else prove '..UptoSaid'. A law counts once. -/
mutual
def uptoBulk {H : Type} : DataW H → Nat
  | .lit (.string bytes) => bytes.length + 1
  | .lit _ => 1
  | .nil => 1
  | .ptr d => uptoBulk d + 1
  | .slice elems spare => uptoBulkAll elems + uptoBulkAll spare + 1
  | .agg parts => uptoBulkAll parts + 1
  | .iface _ d => uptoBulk d + 1
  | .map entries => uptoBulkEntries entries + 1
  | .held _ => 1
def uptoBulkAll {H : Type} : List (DataW H) → Nat
  | [] => 0
  | d :: r => uptoBulk d + uptoBulkAll r
def uptoBulkEntries {H : Type} : List (Lit × DataW H) → Nat
  | [] => 0
  | x :: r => uptoBulkEntry x + uptoBulkEntries r
def uptoBulkEntry {H : Type} : Lit × DataW H → Nat
  | (.string bytes, d) => bytes.length + uptoBulk d + 1
  | (_, d) => uptoBulk d + 1
 end
def uptoSmall : (H : Type) → List (DataW H) → Bool := fun _ ds => decide (uptoBulkAll ds ≤ 1048576)
def OpenSpec.upto (s : _root_.Go.ChangeSpec) : _root_.Go.OpenSpec := { _root_.Go.OpenSpec.ofChange s with cond := some uptoSmall }

/-- 'marqueelaw11.TabsPlays', WHERE WHAT IT READS IS OF BULK AT MOST 1048576: true; the input reads as it did. -/
def tabsPlaysUptoRow : OpenClaim := { program := "ytabipecpkbjdkaa", sum := "2f5ab7fd5ee3dcd79a2e17c7185d81d38fe2b47c4a44084f0f1fe550326fbce7", func := "marquee/marqueelaw11.TabsPlays", spec := "tabsPlays", unfollowed := true, recurses := true, apart := false, narrowed := true }
def TabsPlaysUptoSaid : Prop := tabsPlaysUptoRow.holds Try.pinned (OpenSpec.upto tabsPlaysSpec)

/-- 'marqueelaw11.TabsGoes', WHERE WHAT IT READS IS OF BULK AT MOST 1048576: true; the input reads as it did. -/
def tabsGoesUptoRow : OpenClaim := { program := "ytabipecpkbjdkaa", sum := "2f5ab7fd5ee3dcd79a2e17c7185d81d38fe2b47c4a44084f0f1fe550326fbce7", func := "marquee/marqueelaw11.TabsGoes", spec := "tabsGoes", unfollowed := true, recurses := true, apart := false, narrowed := true }
def TabsGoesUptoSaid : Prop := tabsGoesUptoRow.holds Try.pinned (OpenSpec.upto tabsGoesSpec)

/-- 'marqueelaw11.TabsSteps', WHERE WHAT IT READS IS OF BULK AT MOST 1048576: true; the input reads as it did. -/
def tabsStepsUptoRow : OpenClaim := { program := "ytabipecpkbjdkaa", sum := "2f5ab7fd5ee3dcd79a2e17c7185d81d38fe2b47c4a44084f0f1fe550326fbce7", func := "marquee/marqueelaw11.TabsSteps", spec := "tabsSteps", unfollowed := true, recurses := true, apart := false, narrowed := true }
def TabsStepsUptoSaid : Prop := tabsStepsUptoRow.holds Try.pinned (OpenSpec.upto tabsStepsSpec)

/-- 'marqueelaw11.TabsNone', WHERE WHAT IT READS IS OF BULK AT MOST 1048576: true; the input reads as it did. -/
def tabsNoneUptoRow : OpenClaim := { program := "ytabipecpkbjdkaa", sum := "2f5ab7fd5ee3dcd79a2e17c7185d81d38fe2b47c4a44084f0f1fe550326fbce7", func := "marquee/marqueelaw11.TabsNone", spec := "tabsNone", unfollowed := true, recurses := true, apart := false, narrowed := true }
def TabsNoneUptoSaid : Prop := tabsNoneUptoRow.holds Try.pinned (OpenSpec.upto tabsNoneSpec)

/-- 'marqueelaw11.TabsHas', WHERE WHAT IT READS IS OF BULK AT MOST 1048576: true; the input reads as it did. -/
def tabsHasUptoRow : OpenClaim := { program := "ytabipecpkbjdkaa", sum := "2f5ab7fd5ee3dcd79a2e17c7185d81d38fe2b47c4a44084f0f1fe550326fbce7", func := "marquee/marqueelaw11.TabsHas", spec := "tabsHas", unfollowed := true, recurses := true, apart := false, narrowed := true }
def TabsHasUptoSaid : Prop := tabsHasUptoRow.holds Try.pinned (OpenSpec.upto tabsHasSpec)

end Rows
end Go.Proofs.Ytabipecpkbjdkaa
