/- The laws ShiftBack and ShiftPlaces. -/
import Derived.Test.YtnkdbpbfapdfeaaEh
import Derived.Deep.RegionWith
namespace Go.Proofs.Ytnkdbpbfapdfeaa
open Go.RowKit

/-- A shift lies in block g. -/
def SB (W : World) (g : Nat) (k a n : Int) : Prop := W.heap[g]? = some (.cells #[.int .i64 k, .int .i64 a, .int .i64 n] 32 (0, 0))
theorem SB.new (W : World) (k a n : Int) : SB (W.alloc (.cells #[.int .i64 k, .int .i64 a, .int .i64 n] 32)) W.heap.size k a n := heap_alloc_new W _
theorem SB.lt {W : World} {g : Nat} {k a n : Int} (h : SB W g k a n) : g < W.heap.size := (Array.getElem?_eq_some_iff.1 h).1
theorem SB.c0 {W : World} {g : Nat} {k a n : Int} (h : SB W g k a n) : W.cell? ⟨g, 0, none⟩ = some (.int .i64 k) := cell_of_row _ _ 0 _ _ _ h
theorem SB.c1 {W : World} {g : Nat} {k a n : Int} (h : SB W g k a n) : W.cell? ⟨g, 1, none⟩ = some (.int .i64 a) := cell_of_row _ _ 1 _ _ _ h
theorem SB.c2 {W : World} {g : Nat} {k a n : Int} (h : SB W g k a n) : W.cell? ⟨g, 2, none⟩ = some (.int .i64 n) := cell_of_row _ _ 2 _ _ _ h
theorem SB.past {W W' : World} {g : Nat} {k a n : Int} (h : SB W g k a n) (hb : Below W.heap.size W W') : SB W' g k a n := keep hb h
theorem SB.alloc {W : World} {g : Nat} {k a n : Int} (h : SB W g k a n) (o : Obj) : SB (W.alloc o) g k a n := old1 h

theorem eight_step {wr W W' : World} {a b d : Nat} {v1 v2 v3 v4 v5 v6 v7 v8 : Value} (h : (W.cell? ⟨a, 0, none⟩ = some v1 ∧ W.cell? ⟨a, 1, none⟩ = some v2 ∧ W.cell? ⟨b, 0, none⟩ = some v3 ∧ W.cell? ⟨b, 1, none⟩ = some v4 ∧ W.cell? ⟨b, 2, none⟩ = some v5 ∧ W.cell? ⟨d, 0, none⟩ = some v6 ∧ W.cell? ⟨d, 1, none⟩ = some v7 ∧ W.cell? ⟨d, 2, none⟩ = some v8) ∧ (a < W.heap.size ∧ b < W.heap.size ∧ d < W.heap.size) ∧ Below wr.heap.size wr W) (hb : Below W.heap.size W W') :
    (W'.cell? ⟨a, 0, none⟩ = some v1 ∧ W'.cell? ⟨a, 1, none⟩ = some v2 ∧ W'.cell? ⟨b, 0, none⟩ = some v3 ∧ W'.cell? ⟨b, 1, none⟩ = some v4 ∧ W'.cell? ⟨b, 2, none⟩ = some v5 ∧ W'.cell? ⟨d, 0, none⟩ = some v6 ∧ W'.cell? ⟨d, 1, none⟩ = some v7 ∧ W'.cell? ⟨d, 2, none⟩ = some v8) ∧ (a < W'.heap.size ∧ b < W'.heap.size ∧ d < W'.heap.size) ∧ Below wr.heap.size wr W' := by
  obtain ⟨⟨e1, e2, e3, e4, e5, e6, e7, e8⟩, ⟨l1, l2, l3⟩, hB⟩ := h
  have hs := hb.size
  exact ⟨⟨(hb.cell (p := ⟨a, 0, none⟩) l1).trans e1, (hb.cell (p := ⟨a, 1, none⟩) l1).trans e2, (hb.cell (p := ⟨b, 0, none⟩) l2).trans e3, (hb.cell (p := ⟨b, 1, none⟩) l2).trans e4, (hb.cell (p := ⟨b, 2, none⟩) l2).trans e5, (hb.cell (p := ⟨d, 0, none⟩) l3).trans e6, (hb.cell (p := ⟨d, 1, none⟩) l3).trans e7, (hb.cell (p := ⟨d, 2, none⟩) l3).trans e8⟩, ⟨by omega, by omega, by omega⟩, bel0 hB hb⟩
theorem eight_below {wr W : World} {a b d : Nat} {v1 v2 v3 v4 v5 v6 v7 v8 : Value} (h : (W.cell? ⟨a, 0, none⟩ = some v1 ∧ W.cell? ⟨a, 1, none⟩ = some v2 ∧ W.cell? ⟨b, 0, none⟩ = some v3 ∧ W.cell? ⟨b, 1, none⟩ = some v4 ∧ W.cell? ⟨b, 2, none⟩ = some v5 ∧ W.cell? ⟨d, 0, none⟩ = some v6 ∧ W.cell? ⟨d, 1, none⟩ = some v7 ∧ W.cell? ⟨d, 2, none⟩ = some v8) ∧ (a < W.heap.size ∧ b < W.heap.size ∧ d < W.heap.size) ∧ Below wr.heap.size wr W) : Below wr.heap.size wr W := h.2.2
theorem two_rows {W : World} {g : Nat} {k a n k' a' n' : Int} {t : TypeId} (h : W.heap[g]? = some (.cells #[.int .i64 k, .int .i64 a, .int .i64 n, .int .i64 k', .int .i64 a', .int .i64 n'] t (0, 0))) : RSh W W.heap.size (some ⟨g, 0, none⟩) [(k, a, n), (k', a', n')] := fun _ =>
  ⟨g, 0, rfl, (Array.getElem?_eq_some_iff.1 h).1, fun j hj => by
    match j, hj with
    | 0, _ => exact ⟨cell_of_row _ _ 0 _ _ _ h, cell_of_row _ _ 1 _ _ _ h, cell_of_row _ _ 2 _ _ _ h⟩
    | 1, _ => exact ⟨cell_of_row _ _ 3 _ _ _ h, cell_of_row _ _ 4 _ _ _ h, cell_of_row _ _ 5 _ _ _ h⟩⟩

end Go.Proofs.Ytnkdbpbfapdfeaa
