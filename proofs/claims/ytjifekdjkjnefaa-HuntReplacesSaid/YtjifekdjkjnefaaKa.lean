/- Small facts that every walk of this seat uses: what lies below a world's size is as it was. -/
import Derived.Test.YtjifekdjkjnefaaProg
import Derived.WalkKit
import Derived.WalkSpells
import Derived.WalkLawsBesides
import Derived.Lib.Hide
import Derived.StillTailTactics
import Derived.Deep.QuietTactic
import Derived.BigQuiet
import Derived.Deep.WholeRow
namespace Go.Proofs.Ytjifekdjkjnefaa
open Go.RowKit

theorem bcell {W w1 : World} (hb : Below W.heap.size W w1) : (∀ b o, b < W.heap.size → w1.cell? ⟨b, o, none⟩ = W.cell? ⟨b, o, none⟩) ∧ (∀ b o, b < W.heap.size → w1.frozen? ⟨b, o, none⟩ = W.frozen? ⟨b, o, none⟩) :=
  ⟨fun b o h => hb.cell (p := ⟨b, o, none⟩) h, fun b o h => hb.frozen (p := ⟨b, o, none⟩) h⟩
theorem bel0 {a w w1 : World} (h0 : Below a.heap.size a w) (h : Below w.heap.size w w1) : Below a.heap.size a w1 := h0.trans (h.mono h0.size)
theorem belA {a w : World} (h0 : Below a.heap.size a w) (o : Obj) : Below a.heap.size a (w.alloc o) := h0.alloc h0.size _
theorem bel1 {a w w1 : World} {o : Obj} (h0 : Below a.heap.size a w) (h : Below (w.alloc o).heap.size (w.alloc o) w1) : Below a.heap.size a w1 := bel0 (belA h0 o) h
theorem bel2 {a w w1 : World} {o o' : Obj} (h0 : Below a.heap.size a w) (h : Below ((w.alloc o).alloc o').heap.size ((w.alloc o).alloc o') w1) : Below a.heap.size a w1 := bel1 (belA h0 o) h
theorem bel3 {a w w1 : World} {o o' o'' : Obj} (h0 : Below a.heap.size a w) (h : Below (((w.alloc o).alloc o').alloc o'').heap.size (((w.alloc o).alloc o').alloc o'') w1) : Below a.heap.size a w1 := bel2 (belA h0 o) h
theorem sz1 {w w1 : World} {o : Obj} (h : Below (w.alloc o).heap.size (w.alloc o) w1) : w.heap.size < w1.heap.size := by have := h.size; simp at this; omega
theorem sz2 {w w1 : World} {o o' : Obj} (h : Below ((w.alloc o).alloc o').heap.size ((w.alloc o).alloc o') w1) : w.heap.size + 1 < w1.heap.size := by have := h.size; simp at this; omega
theorem belD {w w1 : World} (h : Below w.drew.heap.size w.drew w1) : Below w.heap.size w w1 := ⟨h.os, h.tape, h.output, h.size, h.block⟩
theorem below_row6 {B g : Nat} {w w1 : World} (h : Below B w w1) (hg : B ≤ g) (v0 v1 v2 v3 v4 v5 : Value) : Below B w ((((((w1.setCell ⟨g, 0, none⟩ v0).setCell ⟨g, 1, none⟩ v1).setCell ⟨g, 2, none⟩ v2).setCell ⟨g, 3, none⟩ v3).setCell ⟨g, 4, none⟩ v4).setCell ⟨g, 5, none⟩ v5) :=
  (((((h.setCell (p := ⟨g, 0, none⟩) hg _).setCell (p := ⟨g, 1, none⟩) hg _).setCell (p := ⟨g, 2, none⟩) hg _).setCell (p := ⟨g, 3, none⟩) hg _).setCell (p := ⟨g, 4, none⟩) hg _).setCell (p := ⟨g, 5, none⟩) hg _

end Go.Proofs.Ytjifekdjkjnefaa
