/- The walk of told. -/
import Derived.Test.YtlolbfbkoimjkaaDoorAj
namespace Go.Proofs.YtlolbfbkoimjkaaDoor
open Go.RowKit

def toldP (c : Int × Int) (g : List Int) (t : List (List Int)) : (Int × Int) × Nat := if 1 < g.length then (withinP c g, 1) else ((behindP c t).1, (behindP c t).2 + 1)
def ToldPost (k0 n0 : Int) (g : List Int) (t : List (List Int)) (w : World) (e : Ending) (w' : World) : Prop := e = .returned (.tuple #[.agg #[.int .i64 (toldP (k0, n0) g t).1.1, .int .i64 (toldP (k0, n0) g t).1.2], .int .i64 (toldP (k0, n0) g t).2]) ∧ Below w.heap.size w w'
set_option maxRecDepth 100000 in
theorem RG.tail {w : World} {B b off : Nat} {g : List Int} {t : List (List Int)} (h : RG w B (some ⟨b, off, none⟩) (g :: t)) : RG w B (some ⟨b, off + 1, none⟩) t := fun hne => by
  obtain ⟨b', off', e, hb, hc⟩ := h (by simp)
  injection e with e
  injection e with e1 e2 _
  subst e1; subst e2
  refine ⟨b, off + 1, rfl, hb, fun k hk => ?_⟩
  obtain ⟨Ai, ci, h1, h2, h3⟩ := hc (k + 1) (by simp; omega)
  rw [List.getElem?_cons_succ] at h1 h2 h3
  exact ⟨Ai, ci, by rw [Nat.add_assoc, Nat.add_comm 1 k]; exact h1, h2, h3⟩

set_option maxRecDepth 100000 in
theorem res_cells3 {w w3 : World} {k0 n0 : Int} (hb : Below (((w.alloc (.cells #[.int .i64 k0, .int .i64 n0] 27)).alloc (.cells #[.int .i64 0, .int .i64 0] 27)).alloc (.cells #[.int .i64 0, .int .i64 0] 27)).heap.size (((w.alloc (.cells #[.int .i64 k0, .int .i64 n0] 27)).alloc (.cells #[.int .i64 0, .int .i64 0] 27)).alloc (.cells #[.int .i64 0, .int .i64 0] 27)) w3) :
    w3.cell? ⟨w.heap.size, 0, none⟩ = some (.int .i64 k0) ∧ w3.cell? ⟨w.heap.size, 1, none⟩ = some (.int .i64 n0) ∧ w3.cell? ⟨w.heap.size + 1, 0, none⟩ = some (.int .i64 0) ∧ w3.cell? ⟨w.heap.size + 1, 1, none⟩ = some (.int .i64 0) ∧ w3.frozen? ⟨w.heap.size + 1, 0, none⟩ = false ∧ w3.frozen? ⟨w.heap.size + 1, 1, none⟩ = false ∧ w3.cell? ⟨w.heap.size + 1 + 1, 0, none⟩ = some (.int .i64 0) ∧ w3.cell? ⟨w.heap.size + 1 + 1, 1, none⟩ = some (.int .i64 0) ∧ w3.frozen? ⟨w.heap.size + 1 + 1, 0, none⟩ = false ∧ w3.frozen? ⟨w.heap.size + 1 + 1, 1, none⟩ = false ∧ w.heap.size + 1 + 1 < w3.heap.size := by
  obtain ⟨hc, hf⟩ := bcell hb
  have h3 := hb.size
  have hz : (((w.alloc (.cells #[.int .i64 k0, .int .i64 n0] 27)).alloc (.cells #[.int .i64 0, .int .i64 0] 27)).alloc (.cells #[.int .i64 0, .int .i64 0] 27)).heap.size = w.heap.size + 3 := by simp
  rw [hz] at hc hf h3
  have b0 : (((w.alloc (.cells #[.int .i64 k0, .int .i64 n0] 27)).alloc (.cells #[.int .i64 0, .int .i64 0] 27)).alloc (.cells #[.int .i64 0, .int .i64 0] 27)).heap[w.heap.size]? = some (.cells #[.int .i64 k0, .int .i64 n0] 27 (0, 0)) := alloc_block (alloc_block (heap_alloc_new w _))
  have b1 : (((w.alloc (.cells #[.int .i64 k0, .int .i64 n0] 27)).alloc (.cells #[.int .i64 0, .int .i64 0] 27)).alloc (.cells #[.int .i64 0, .int .i64 0] 27)).heap[w.heap.size + 1]? = some (.cells #[.int .i64 0, .int .i64 0] 27 (0, 0)) := alloc_block (by
    have h := heap_alloc_new (w.alloc (.cells #[.int .i64 k0, .int .i64 n0] 27)) (.cells #[.int .i64 0, .int .i64 0] 27)
    rw [show (w.alloc (.cells #[.int .i64 k0, .int .i64 n0] 27)).heap.size = w.heap.size + 1 by simp] at h
    exact h)
  have b2 : (((w.alloc (.cells #[.int .i64 k0, .int .i64 n0] 27)).alloc (.cells #[.int .i64 0, .int .i64 0] 27)).alloc (.cells #[.int .i64 0, .int .i64 0] 27)).heap[w.heap.size + 1 + 1]? = some (.cells #[.int .i64 0, .int .i64 0] 27 (0, 0)) := by
    have h := heap_alloc_new ((w.alloc (.cells #[.int .i64 k0, .int .i64 n0] 27)).alloc (.cells #[.int .i64 0, .int .i64 0] 27)) (.cells #[.int .i64 0, .int .i64 0] 27)
    rw [show ((w.alloc (.cells #[.int .i64 k0, .int .i64 n0] 27)).alloc (.cells #[.int .i64 0, .int .i64 0] 27)).heap.size = w.heap.size + 1 + 1 by simp] at h
    exact h
  generalize ((w.alloc (.cells #[.int .i64 k0, .int .i64 n0] 27)).alloc (.cells #[.int .i64 0, .int .i64 0] 27)).alloc (.cells #[.int .i64 0, .int .i64 0] 27) = W at *
  have c0 := fun j => cell_of_row W w.heap.size j _ _ _ b0
  have c1 := fun j => cell_of_row W (w.heap.size + 1) j _ _ _ b1
  have c2 := fun j => cell_of_row W (w.heap.size + 1 + 1) j _ _ _ b2
  refine ⟨(hc w.heap.size 0 (by omega)).trans (c0 0), (hc w.heap.size 1 (by omega)).trans (c0 1), (hc (w.heap.size + 1) 0 (by omega)).trans (c1 0), (hc (w.heap.size + 1) 1 (by omega)).trans (c1 1), (hf (w.heap.size + 1) 0 (by omega)).trans ?_, (hf (w.heap.size + 1) 1 (by omega)).trans ?_, (hc (w.heap.size + 1 + 1) 0 (by omega)).trans (c2 0), (hc (w.heap.size + 1 + 1) 1 (by omega)).trans (c2 1), (hf (w.heap.size + 1 + 1) 0 (by omega)).trans ?_, (hf (w.heap.size + 1 + 1) 1 (by omega)).trans ?_, by omega⟩
  all_goals simp [World.frozen?, b1, b2]
end Go.Proofs.YtlolbfbkoimjkaaDoor
