/- What groups make of an attribute, plain; an attribute's box and the result's. -/
import Derived.Test.YtlolbfbkoimjkaaDoorAk
namespace Go.Proofs.YtlolbfbkoimjkaaDoor
open Go.RowKit

/-- An attribute: its colors' kinds and numbers, its flags. -/
structure AT where
  fk : Int
  fn : Int
  bk : Int
  bn : Int
  fl : Int
def AT.zero : AT := ⟨0, 0, 0, 0, 0⟩
def AT.val (a : AT) : Value := .agg #[.int .i64 a.fk, .int .i64 a.fn, .int .i64 a.bk, .int .i64 a.bn, .int .i64 a.fl]
def flagN (g : List Int) : Int := if g.length = 1 then flag1 (hd0 g) else flag2 (hd0 g) (g[1]?.getD 0)
/-- One step: and how many groups behind the first are done with. -/
def stepP (a : AT) (g : List Int) (t : List (List Int)) : AT × Nat :=
  if hd0 g = 0 then (AT.zero, 0)
  else if hd0 g = 38 then (⟨(toldP (a.fk, a.fn) g t).1.1, (toldP (a.fk, a.fn) g t).1.2, a.bk, a.bn, a.fl⟩, (toldP (a.fk, a.fn) g t).2 - 1)
  else if hd0 g = 48 then (⟨a.fk, a.fn, (toldP (a.bk, a.bn) g t).1.1, (toldP (a.bk, a.bn) g t).1.2, a.fl⟩, (toldP (a.bk, a.bn) g t).2 - 1)
  else (⟨namedK a.fk (hd0 g), namedN a.fn (hd0 g), namedK a.bk (hd0 g - 10), namedN a.bn (hd0 g - 10), turnZ a.fl (flagN g)⟩, 0)
def turnP (a : AT) (L : List (List Int)) : AT :=
  match L with
  | [] => a
  | g :: t => turnP (stepP a g t).1 (t.drop (stepP a g t).2)
termination_by L.length
decreasing_by simp [List.length_drop]; omega
set_option maxRecDepth 100000 in
theorem turnP_cons (a : AT) (g : List Int) (t : List (List Int)) : turnP a (g :: t) = turnP (stepP a g t).1 (t.drop (stepP a g t).2) := by
  rw [turnP]
set_option maxRecDepth 100000 in
theorem step_other (x : AT) (g : List Int) (t : List (List Int)) (v : Int) (hv : hd0 g = v) (h0 : v ≠ 0) (h38 : v ≠ 38) (h48 : v ≠ 48) : stepP x g t = (⟨namedK x.fk v, namedN x.fn v, namedK x.bk (v - 10), namedN x.bn (v - 10), turnZ x.fl (flagN g)⟩, 0) := by
  unfold stepP
  rw [hv, if_neg h0, if_neg h38, if_neg h48]
set_option maxRecDepth 100000 in
theorem behind_done (c : Int × Int) (t : List (List Int)) : (behindP c t).2 ≤ t.length := by
  unfold behindP
  split
  · simp
  · rename_i g t
    split
    · split
      · show t.length + 1 ≤ _; simp
      · show 2 ≤ (g :: t).length; simp; omega
    · split
      · split
        · show t.length + 1 ≤ _; simp
        · show 4 ≤ (g :: t).length; simp; omega
      · show 1 ≤ (g :: t).length; simp
set_option maxRecDepth 100000 in
theorem told_done (c : Int × Int) (g : List Int) (t : List (List Int)) : 1 ≤ (toldP c g t).2 ∧ (toldP c g t).2 ≤ t.length + 1 := by
  unfold toldP
  split
  · show 1 ≤ 1 ∧ 1 ≤ t.length + 1; omega
  · have := behind_done c t
    show 1 ≤ (behindP c t).2 + 1 ∧ (behindP c t).2 + 1 ≤ t.length + 1
    omega
set_option maxRecDepth 100000 in
theorem RG.drop {w : World} {B : Nat} : ∀ (k : Nat) {b off : Nat} {L : List (List Int)}, RG w B (some ⟨b, off, none⟩) L → RG w B (some ⟨b, off + k, none⟩) (L.drop k)
  | 0, _, _, _, h => h
  | k + 1, b, off, [], _ => fun h => absurd (by simp) h
  | k + 1, b, off, g :: t, h => by
    have := RG.drop k h.tail
    rw [Nat.add_assoc, Nat.add_comm 1 k] at this
    exact this
/-- The attribute's box stands in the first block, the result's in the next one. -/
structure AB (w W : World) (a : AT) : Prop where
  below : Below w.heap.size w W
  box : W.heap[w.heap.size]? = some (.cells #[.int .i64 a.fk, .int .i64 a.fn, .int .i64 a.bk, .int .i64 a.bn, .int .i64 a.fl] 29 (0, 0))
  res : W.heap[w.heap.size + 1]? = some (.cells #[.int .i64 0, .int .i64 0, .int .i64 0, .int .i64 0, .int .i64 0] 29 (0, 0))
set_option maxRecDepth 100000 in
theorem AB.past {w W W' : World} {a : AT} (h : AB w W a) (hb : Below W.heap.size W W') : AB w W' a :=
  ⟨bel0 h.below hb, (hb.block _ (lt_of_block h.box)).trans h.box, (hb.block _ (lt_of_block h.res)).trans h.res⟩
set_option maxRecDepth 100000 in
theorem set_block {W : World} {b : Nat} {c : Array Value} {t : TypeId} (h : W.heap[b]? = some (.cells c t (0, 0))) (j : Nat) (v : Value) : (W.setCell ⟨b, j, none⟩ v).heap[b]? = some (.cells (c.setIfInBounds j v) t (0, 0)) := by
  have hlt := lt_of_block h
  have h' : W.heap[b] = .cells c t (0, 0) := by simpa [Array.getElem?_eq_getElem hlt] using h
  show (W.heap.modify b _)[b]? = _
  rw [Array.getElem?_eq_getElem (by simpa using hlt), Array.getElem_modify_self, h']
  rfl
set_option maxRecDepth 100000 in
theorem AB.fore {w W : World} {a : AT} (h : AB w W a) (k n : Int) : AB w ((W.setCell ⟨w.heap.size, 0, none⟩ (.int .i64 k)).setCell ⟨w.heap.size, 1, none⟩ (.int .i64 n)) ⟨k, n, a.bk, a.bn, a.fl⟩ :=
  ⟨((h.below.setCell (p := ⟨w.heap.size, 0, none⟩) (Nat.le_refl _) _).setCell (p := ⟨w.heap.size, 1, none⟩) (Nat.le_refl _) _), (set_block (set_block h.box 0 (.int .i64 k)) 1 (.int .i64 n)), ((heap_setCell_other (W.setCell ⟨w.heap.size, 0, none⟩ (.int .i64 k)) ⟨w.heap.size, 1, none⟩ (w.heap.size + 1) (.int .i64 n) (by show w.heap.size + 1 ≠ w.heap.size; omega)).trans ((heap_setCell_other W ⟨w.heap.size, 0, none⟩ (w.heap.size + 1) (.int .i64 k) (by show w.heap.size + 1 ≠ w.heap.size; omega)).trans h.res))⟩
set_option maxRecDepth 100000 in
theorem AB.back {w W : World} {a : AT} (h : AB w W a) (k n : Int) : AB w ((W.setCell ⟨w.heap.size, 2, none⟩ (.int .i64 k)).setCell ⟨w.heap.size, 3, none⟩ (.int .i64 n)) ⟨a.fk, a.fn, k, n, a.fl⟩ :=
  ⟨((h.below.setCell (p := ⟨w.heap.size, 2, none⟩) (Nat.le_refl _) _).setCell (p := ⟨w.heap.size, 3, none⟩) (Nat.le_refl _) _), (set_block (set_block h.box 2 (.int .i64 k)) 3 (.int .i64 n)), ((heap_setCell_other (W.setCell ⟨w.heap.size, 2, none⟩ (.int .i64 k)) ⟨w.heap.size, 3, none⟩ (w.heap.size + 1) (.int .i64 n) (by show w.heap.size + 1 ≠ w.heap.size; omega)).trans ((heap_setCell_other W ⟨w.heap.size, 2, none⟩ (w.heap.size + 1) (.int .i64 k) (by show w.heap.size + 1 ≠ w.heap.size; omega)).trans h.res))⟩
set_option maxRecDepth 100000 in
theorem AB.flag {w W : World} {a : AT} (h : AB w W a) (f : Int) : AB w (W.setCell ⟨w.heap.size, 4, none⟩ (.int .i64 f)) ⟨a.fk, a.fn, a.bk, a.bn, f⟩ :=
  ⟨(h.below.setCell (p := ⟨w.heap.size, 4, none⟩) (Nat.le_refl _) _), (set_block h.box 4 (.int .i64 f)), ((heap_setCell_other W ⟨w.heap.size, 4, none⟩ (w.heap.size + 1) (.int .i64 f) (by show w.heap.size + 1 ≠ w.heap.size; omega)).trans h.res)⟩
set_option maxRecDepth 100000 in
theorem AB.clean {w W : World} {a : AT} (h : AB w W a) : AB w (((((W.setCell ⟨w.heap.size, 0, none⟩ (.int .i64 0)).setCell ⟨w.heap.size, 1, none⟩ (.int .i64 0)).setCell ⟨w.heap.size, 2, none⟩ (.int .i64 0)).setCell ⟨w.heap.size, 3, none⟩ (.int .i64 0)).setCell ⟨w.heap.size, 4, none⟩ (.int .i64 0)) AT.zero :=
  ⟨(((((h.below.setCell (p := ⟨w.heap.size, 0, none⟩) (Nat.le_refl _) _).setCell (p := ⟨w.heap.size, 1, none⟩) (Nat.le_refl _) _).setCell (p := ⟨w.heap.size, 2, none⟩) (Nat.le_refl _) _).setCell (p := ⟨w.heap.size, 3, none⟩) (Nat.le_refl _) _).setCell (p := ⟨w.heap.size, 4, none⟩) (Nat.le_refl _) _), (set_block (set_block (set_block (set_block (set_block h.box 0 (.int .i64 0)) 1 (.int .i64 0)) 2 (.int .i64 0)) 3 (.int .i64 0)) 4 (.int .i64 0)), ((heap_setCell_other ((((W.setCell ⟨w.heap.size, 0, none⟩ (.int .i64 0)).setCell ⟨w.heap.size, 1, none⟩ (.int .i64 0)).setCell ⟨w.heap.size, 2, none⟩ (.int .i64 0)).setCell ⟨w.heap.size, 3, none⟩ (.int .i64 0)) ⟨w.heap.size, 4, none⟩ (w.heap.size + 1) (.int .i64 0) (by show w.heap.size + 1 ≠ w.heap.size; omega)).trans ((heap_setCell_other (((W.setCell ⟨w.heap.size, 0, none⟩ (.int .i64 0)).setCell ⟨w.heap.size, 1, none⟩ (.int .i64 0)).setCell ⟨w.heap.size, 2, none⟩ (.int .i64 0)) ⟨w.heap.size, 3, none⟩ (w.heap.size + 1) (.int .i64 0) (by show w.heap.size + 1 ≠ w.heap.size; omega)).trans ((heap_setCell_other ((W.setCell ⟨w.heap.size, 0, none⟩ (.int .i64 0)).setCell ⟨w.heap.size, 1, none⟩ (.int .i64 0)) ⟨w.heap.size, 2, none⟩ (w.heap.size + 1) (.int .i64 0) (by show w.heap.size + 1 ≠ w.heap.size; omega)).trans ((heap_setCell_other (W.setCell ⟨w.heap.size, 0, none⟩ (.int .i64 0)) ⟨w.heap.size, 1, none⟩ (w.heap.size + 1) (.int .i64 0) (by show w.heap.size + 1 ≠ w.heap.size; omega)).trans ((heap_setCell_other W ⟨w.heap.size, 0, none⟩ (w.heap.size + 1) (.int .i64 0) (by show w.heap.size + 1 ≠ w.heap.size; omega)).trans h.res)))))⟩
set_option maxRecDepth 100000 in
theorem free_of_row {W : World} {b j : Nat} {c : Array Value} {t : TypeId} (h : W.heap[b]? = some (.cells c t (0, 0))) : W.frozen? ⟨b, j, none⟩ = false := by
  simp [World.frozen?, h]
set_option maxRecDepth 100000 in
theorem AB.cells {w W : World} {a : AT} (h : AB w W a) : (W.cell? ⟨w.heap.size, 0, none⟩ = some (.int .i64 a.fk) ∧ W.cell? ⟨w.heap.size, 1, none⟩ = some (.int .i64 a.fn) ∧ W.cell? ⟨w.heap.size, 2, none⟩ = some (.int .i64 a.bk) ∧ W.cell? ⟨w.heap.size, 3, none⟩ = some (.int .i64 a.bn) ∧ W.cell? ⟨w.heap.size, 4, none⟩ = some (.int .i64 a.fl)) ∧
    W.frozen? ⟨w.heap.size, 0, none⟩ = false ∧ W.frozen? ⟨w.heap.size, 1, none⟩ = false ∧ W.frozen? ⟨w.heap.size, 2, none⟩ = false ∧ W.frozen? ⟨w.heap.size, 3, none⟩ = false ∧ W.frozen? ⟨w.heap.size, 4, none⟩ = false :=
  ⟨⟨cell_of_row W _ 0 _ _ _ h.box, cell_of_row W _ 1 _ _ _ h.box, cell_of_row W _ 2 _ _ _ h.box, cell_of_row W _ 3 _ _ _ h.box, cell_of_row W _ 4 _ _ _ h.box⟩, free_of_row h.box, free_of_row h.box, free_of_row h.box, free_of_row h.box, free_of_row h.box⟩
set_option maxRecDepth 100000 in
theorem AB.outs {w W : World} {a : AT} (h : AB w W a) : (W.cell? ⟨w.heap.size + 1, 0, none⟩ = some (.int .i64 0) ∧ W.cell? ⟨w.heap.size + 1, 1, none⟩ = some (.int .i64 0) ∧ W.cell? ⟨w.heap.size + 1, 2, none⟩ = some (.int .i64 0) ∧ W.cell? ⟨w.heap.size + 1, 3, none⟩ = some (.int .i64 0) ∧ W.cell? ⟨w.heap.size + 1, 4, none⟩ = some (.int .i64 0)) ∧
    W.frozen? ⟨w.heap.size + 1, 0, none⟩ = false ∧ W.frozen? ⟨w.heap.size + 1, 1, none⟩ = false ∧ W.frozen? ⟨w.heap.size + 1, 2, none⟩ = false ∧ W.frozen? ⟨w.heap.size + 1, 3, none⟩ = false ∧ W.frozen? ⟨w.heap.size + 1, 4, none⟩ = false :=
  ⟨⟨cell_of_row W _ 0 _ _ _ h.res, cell_of_row W _ 1 _ _ _ h.res, cell_of_row W _ 2 _ _ _ h.res, cell_of_row W _ 3 _ _ _ h.res, cell_of_row W _ 4 _ _ _ h.res⟩, free_of_row h.res, free_of_row h.res, free_of_row h.res, free_of_row h.res, free_of_row h.res⟩
set_option maxRecDepth 100000 in
theorem AB.start (w : World) (a : AT) : AB w ((w.alloc (.cells #[.int .i64 a.fk, .int .i64 a.fn, .int .i64 a.bk, .int .i64 a.bn, .int .i64 a.fl] 29)).alloc (.cells #[.int .i64 0, .int .i64 0, .int .i64 0, .int .i64 0, .int .i64 0] 29)) a := by
  refine ⟨belA (belA (Below.refl _ _) _) _, alloc_block (heap_alloc_new w _), ?_⟩
  have h := heap_alloc_new (w.alloc (.cells #[.int .i64 a.fk, .int .i64 a.fn, .int .i64 a.bk, .int .i64 a.bn, .int .i64 a.fl] 29)) (.cells #[.int .i64 0, .int .i64 0, .int .i64 0, .int .i64 0, .int .i64 0] 29)
  rw [show (w.alloc (.cells #[.int .i64 a.fk, .int .i64 a.fn, .int .i64 a.bk, .int .i64 a.bn, .int .i64 a.fl] 29)).heap.size = w.heap.size + 1 by simp] at h
  exact h
end Go.Proofs.YtlolbfbkoimjkaaDoor
