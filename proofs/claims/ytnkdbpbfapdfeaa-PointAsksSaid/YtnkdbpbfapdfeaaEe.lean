/- The law ShiftMoves. -/
import Derived.Test.YtnkdbpbfapdfeaaEd
import Derived.Deep.RegionHeld3
import Derived.Deep.DeepCutAuto
namespace Go.Proofs.Ytnkdbpbfapdfeaa
open Go.RowKit

theorem five_step {wr W W' : World} {a b : Nat} {v1 v2 v3 v4 v5 : Value} (h : (W.cell? ⟨a, 0, none⟩ = some v1 ∧ W.cell? ⟨a, 1, none⟩ = some v2 ∧ W.cell? ⟨b, 0, none⟩ = some v3 ∧ W.cell? ⟨b, 1, none⟩ = some v4 ∧ W.cell? ⟨b, 2, none⟩ = some v5) ∧ (a < W.heap.size ∧ b < W.heap.size) ∧ Below wr.heap.size wr W) (hb : Below W.heap.size W W') :
    (W'.cell? ⟨a, 0, none⟩ = some v1 ∧ W'.cell? ⟨a, 1, none⟩ = some v2 ∧ W'.cell? ⟨b, 0, none⟩ = some v3 ∧ W'.cell? ⟨b, 1, none⟩ = some v4 ∧ W'.cell? ⟨b, 2, none⟩ = some v5) ∧ (a < W'.heap.size ∧ b < W'.heap.size) ∧ Below wr.heap.size wr W' := by
  obtain ⟨⟨e1, e2, e3, e4, e5⟩, ⟨l1, l2⟩, hB⟩ := h
  have hs := hb.size
  exact ⟨⟨(hb.cell (p := ⟨a, 0, none⟩) l1).trans e1, (hb.cell (p := ⟨a, 1, none⟩) l1).trans e2, (hb.cell (p := ⟨b, 0, none⟩) l2).trans e3, (hb.cell (p := ⟨b, 1, none⟩) l2).trans e4, (hb.cell (p := ⟨b, 2, none⟩) l2).trans e5⟩, ⟨by omega, by omega⟩, bel0 hB hb⟩

theorem five_below {wr W : World} {a b : Nat} {v1 v2 v3 v4 v5 : Value} (h : (W.cell? ⟨a, 0, none⟩ = some v1 ∧ W.cell? ⟨a, 1, none⟩ = some v2 ∧ W.cell? ⟨b, 0, none⟩ = some v3 ∧ W.cell? ⟨b, 1, none⟩ = some v4 ∧ W.cell? ⟨b, 2, none⟩ = some v5) ∧ (a < W.heap.size ∧ b < W.heap.size) ∧ Below wr.heap.size wr W) : Below wr.heap.size wr W := h.2.2
theorem right_b (k a n : Int) (b : Bool) (h : okS k a n = b) (w : World) : Calls Try.prog 51 #[.agg #[.int .i64 k, .int .i64 a, .int .i64 n]] w fun e w' => e = .returned (.bool b) ∧ Below w.heap.size w w' :=
  (right_as k a n b h w).mono fun _ _ ⟨he, hw⟩ => ⟨he, hw ▸ belA (Below.refl _ _) _⟩
theorem refShift_b (k a n : Int) (b : Bool) (h : okS k a n = b) (w : World) : Calls Try.prog 43 #[.agg #[.int .i64 k, .int .i64 a, .int .i64 n]] w fun e w' => e = .returned (.bool b) ∧ Below w.heap.size w w' :=
  (refShift_as k a n b h w).mono fun _ _ ⟨he, hw⟩ => ⟨he, hw ▸ belA (Below.refl _ _) _⟩
theorem beq_b (b : Bool) : (b == b) = true := by simp

end Go.Proofs.Ytnkdbpbfapdfeaa
