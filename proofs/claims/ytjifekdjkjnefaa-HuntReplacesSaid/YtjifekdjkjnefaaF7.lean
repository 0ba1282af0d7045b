/- The walks of All, Loose, Count, Next, Ahead. -/
import Derived.Test.YtjifekdjkjnefaaF6
namespace Go.Proofs.Ytjifekdjkjnefaa
open Go.RowKit

theorem cf_itself : ∀ a W, (callFunc 34 #[a]).run Try.prog W = .ok (.enter 34 #[a]) W := fun a W => by
  kernel_rfl
set_option maxRecDepth 100000 in
theorem all_any (T N : List UInt8) (hT : T.length ≤ 100000000) (hN : N.length ≤ 100000000) (w : World) :
    Calls Try.prog 23 #[.string (bsB T), .string (bsB N)] w (IntsPost (pls idL T N) w) := by
  have HA := Lib.hid (allF_any idL 34 cf_itself itself_any T N hT hN w)
  unfold IntsPost at *
  generalize pls idL T N = pl at *
  generalize pl.length = n at *
  generalize intV pl = os at *
  generalize bsB T = sT at *
  generalize bsB N = sN at *
  go_enter Try.func23, Try.ntmps23
  go_wp2_with (go_at_call 33; (with_reducible refine HA.out.mono ?_); rintro e w3 ⟨A, c, rfl, h3⟩; have H3 := Lib.hid h3; clear h3)
  go_ret
  exact ⟨A, c, rfl, H3.out⟩
/-- Own boxes of one cell, from b on. -/
structure B1 (w0 : World) (b : Nat) (v : Value) (t : TypeId) (W : World) : Prop where
  below : Below w0.heap.size w0 W
  le : w0.heap.size ≤ b
  b0 : W.heap[b]? = some (.cells #[v] t (0, 0))
theorem B1.lt {w0 W : World} {b : Nat} {v : Value} {t : TypeId} (h : B1 w0 b v t W) : b < W.heap.size := (Array.getElem?_eq_some_iff.1 h.b0).1
theorem B1.past {w0 W W' : World} {b : Nat} {v : Value} {t : TypeId} (h : B1 w0 b v t W) (hb : Below W.heap.size W W') : B1 w0 b v t W' := ⟨bel0 h.below hb, h.le, (hb.block b h.lt).trans h.b0⟩
theorem B1.set {w0 W : World} {b : Nat} {v : Value} {t : TypeId} (h : B1 w0 b v t W) (u : Value) : B1 w0 b u t (W.setCell ⟨b, 0, none⟩ u) :=
  ⟨h.below.setCell (p := ⟨b, 0, none⟩) h.le _, h.le, by rw [row_set h.b0]; rfl⟩
theorem B1.other {w0 W : World} {b : Nat} {v : Value} {t : TypeId} (h : B1 w0 b v t W) (c : Nat) (hc : c ≠ b) (hw : w0.heap.size ≤ c) (u : Value) : B1 w0 b v t (W.setCell ⟨c, 0, none⟩ u) :=
  ⟨h.below.setCell (p := ⟨c, 0, none⟩) hw _, h.le, (Below.heap_setCell _ _ _ b (fun e => hc e.symm)).trans h.b0⟩
theorem B1.cell {w0 W : World} {b : Nat} {v : Value} {t : TypeId} (h : B1 w0 b v t W) : W.cell? ⟨b, 0, none⟩ = some v ∧ W.frozen? ⟨b, 0, none⟩ = false := ⟨row_cell h.b0 0 _ rfl, by simp [World.frozen?, h.b0]⟩
theorem B1.first (w w1 : World) (h : Below w.heap.size w w1) (v : Value) (t : TypeId) : B1 w w1.heap.size v t (w1.alloc (.cells #[v] t)) := ⟨belA h _, h.size, heap_alloc_new w1 _⟩
end Go.Proofs.Ytjifekdjkjnefaa
