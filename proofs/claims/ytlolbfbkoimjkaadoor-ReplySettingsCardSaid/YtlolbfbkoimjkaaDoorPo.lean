/- The walk of the reference's Clean. -/
import Derived.Test.YtlolbfbkoimjkaaDoorPn
namespace Go.Proofs.YtlolbfbkoimjkaaDoor
open Go.RowKit

/-- Rows that are done; their blocks lie below C. -/
structure OG (w : World) (B C : Nat) (v : Value) (L : List (List Int)) (vals : List Value) : Prop where
  own : w.ownsRow B 42 1 v L.length vals
  rw : RW w B C L vals
theorem OG.past {w w' : World} {B C : Nat} {v : Value} {L : List (List Int)} {vals : List Value} (h : OG w B C v L vals) (hb : Below w.heap.size w w') : OG w' B C v L vals := ⟨own_past h.own hb, h.rw.past hb⟩
/-- A row of numbers from C on has grown. -/
theorem OG.beside {w w5 : World} {B C : Nat} {v vg : Value} {L : List (List Int)} {vals : List Value} {n : Nat} {xs : List Value} (h : OG w B C v L vals) (hv : w.ownsRow C 3 1 vg n xs) (hg : w.grownBy w5 vg.ownBlock) : OG w5 B C v L vals :=
  ⟨h.own.kept hg (own_ne_type h.own hv ne_ii), h.rw.keptC hg (fun g e => (hv.lt g e).1)⟩
/-- A row is laid behind the others. -/
theorem OG.push {w w5 : World} {B C : Nat} {v v2 vg : Value} {L : List (List Int)} {vals : List Value} {xs : List Int} (h : OG w B C v L vals) (hBC : B ≤ C) (hv : w.ownsRow C 3 1 vg xs.length (xs.map (Value.int .i64))) (hg : w.grownBy w5 v.ownBlock) (h2 : w5.ownsRow B 42 1 v2 (L.length + 1) (vals ++ [vg])) : OG w5 B w5.heap.size v2 (L ++ [xs]) (vals ++ [vg]) := by
  have hr : RW w B w.heap.size L vals := ⟨h.rw.len, fun i hi => ⟨(h.rw.row i hi).1, fun b hb => ((h.rw.row i hi).1.lt b hb).2⟩⟩
  have hs := (hr.snoc (own_mono hv hBC) (fun b hb => (hv.lt b hb).2)).keptO h.own hg
  exact ⟨by rw [List.length_append]; exact h2, hs.mono hg.size⟩

end Go.Proofs.YtlolbfbkoimjkaaDoor
