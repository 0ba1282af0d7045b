/- The walks of Next and Ahead. -/
import Derived.Test.YtjifekdjkjnefaaF7
namespace Go.Proofs.Ytjifekdjkjnefaa
open Go.RowKit

theorem belN' (w : World) (n : Nat) : Below w.heap.size w (w.drewN n) := ⟨rfl, rfl, rfl, Nat.le_refl _, fun _ _ => rfl⟩
/-- Three own boxes: from where, a place, whether there is one. -/
structure N3 (w0 : World) (f l : Int) (b : Bool) (W : World) : Prop where
  below : Below w0.heap.size w0 W
  b0 : W.heap[w0.heap.size]? = some (.cells #[.int .i64 f] 3 (0, 0))
  b1 : W.heap[w0.heap.size + 1]? = some (.cells #[.int .i64 l] 3 (0, 0))
  b2 : W.heap[w0.heap.size + 2]? = some (.cells #[.bool b] 4 (0, 0))
theorem N3.lt {w0 W : World} {f l : Int} {b : Bool} (h : N3 w0 f l b W) : w0.heap.size + 2 < W.heap.size := (Array.getElem?_eq_some_iff.1 h.b2).1
theorem N3.past {w0 W W' : World} {f l : Int} {b : Bool} (h : N3 w0 f l b W) (hb : Below W.heap.size W W') : N3 w0 f l b W' :=
  have := h.lt
  ⟨bel0 h.below hb, (hb.block _ (by omega)).trans h.b0, (hb.block _ (by omega)).trans h.b1, (hb.block _ (by omega)).trans h.b2⟩
theorem N3.cells {w0 W : World} {f l : Int} {b : Bool} (h : N3 w0 f l b W) : W.cell? ⟨w0.heap.size, 0, none⟩ = some (.int .i64 f) ∧ (W.cell? ⟨w0.heap.size + 1, 0, none⟩ = some (.int .i64 l) ∧ W.frozen? ⟨w0.heap.size + 1, 0, none⟩ = false) ∧ (W.cell? ⟨w0.heap.size + 2, 0, none⟩ = some (.bool b) ∧ W.frozen? ⟨w0.heap.size + 2, 0, none⟩ = false) :=
  ⟨row_cell h.b0 0 _ rfl, ⟨row_cell h.b1 0 _ rfl, by simp [World.frozen?, h.b1]⟩, ⟨row_cell h.b2 0 _ rfl, by simp [World.frozen?, h.b2]⟩⟩
theorem N3.set {w0 W : World} {f l l' : Int} {b b' : Bool} (h : N3 w0 f l b W) : N3 w0 f l' b' ((W.setCell ⟨w0.heap.size + 1, 0, none⟩ (.int .i64 l')).setCell ⟨w0.heap.size + 2, 0, none⟩ (.bool b')) := by
  refine ⟨(h.below.setCell (p := ⟨w0.heap.size + 1, 0, none⟩) (by show w0.heap.size ≤ w0.heap.size + 1; omega) _).setCell (p := ⟨w0.heap.size + 2, 0, none⟩) (by show w0.heap.size ≤ w0.heap.size + 2; omega) _, ?_, ?_, ?_⟩
  · exact (Below.heap_setCell _ _ _ _ (by show w0.heap.size ≠ w0.heap.size + 2; omega)).trans ((Below.heap_setCell _ _ _ _ (by show w0.heap.size ≠ w0.heap.size + 1; omega)).trans h.b0)
  · refine (Below.heap_setCell _ _ _ _ (by show w0.heap.size + 1 ≠ w0.heap.size + 2; omega)).trans ?_
    rw [row_set h.b1]
    rfl
  · rw [row_set ((Below.heap_setCell _ _ _ _ (by show w0.heap.size + 2 ≠ w0.heap.size + 1; omega)).trans h.b2)]
    rfl
theorem N3.fro {w0 W : World} (v u : Value) : FrO (fun _ k => w0.heap.size ≤ k ∧ k ≤ w0.heap.size + 2) W ((W.setCell ⟨w0.heap.size + 1, 0, none⟩ v).setCell ⟨w0.heap.size + 2, 0, none⟩ u) :=
  ⟨by rw [World.size_setCell, World.size_setCell]; exact Nat.le_refl _, fun k _ hn => (Below.heap_setCell _ _ _ _ (by show k ≠ w0.heap.size + 2; omega)).trans (Below.heap_setCell _ _ _ _ (by show k ≠ w0.heap.size + 1; omega)), fun k h => .inl h⟩
theorem N3.first (w : World) (f : Int) : N3 w f 0 false (((w.alloc (.cells #[.int .i64 f] 3)).alloc (.cells #[.int .i64 0] 3)).alloc (.cells #[.bool false] 4)) := by
  refine ⟨belA (belA (belA (Below.refl _ _) _) _) _, ?_, ?_, ?_⟩
  · exact ((belA (belA (Below.refl (w.alloc (.cells #[.int .i64 f] 3)).heap.size _) _) _).block _ (by simp)).trans (heap_alloc_new w _)
  · have h2 := heap_alloc_new (w.alloc (.cells #[.int .i64 f] 3)) (.cells #[.int .i64 0] 3)
    rw [show (w.alloc (.cells #[.int .i64 f] 3)).heap.size = w.heap.size + 1 by simp] at h2
    exact ((belA (Below.refl ((w.alloc (.cells #[.int .i64 f] 3)).alloc (.cells #[.int .i64 0] 3)).heap.size _) _).block _ (by simp)).trans h2
  · have h2 := heap_alloc_new ((w.alloc (.cells #[.int .i64 f] 3)).alloc (.cells #[.int .i64 0] 3)) (.cells #[.bool false] 4)
    rw [show ((w.alloc (.cells #[.int .i64 f] 3)).alloc (.cells #[.int .i64 0] 3)).heap.size = w.heap.size + 2 by simp] at h2
    exact h2
def lastV (l : List Nat) : Int × Bool := match l.getLast? with | some p => (p, true) | none => (0, false)
theorem lastV_snoc (l : List Nat) (p : Nat) : lastV (l ++ [p]) = ((p : Int), true) := by simp [lastV]
def aheadV (f : Int) (l : List Nat) : Int × Bool := lastV (l.filter fun p => decide ((p : Int) < f))
def firstV (k : Nat) (l : List Nat) : Int × Bool := match l with | p :: _ => ((k : Int) + p, true) | [] => (0, false)
def nextV (T N : List UInt8) (f : Int) : Int × Bool := if (T.length : Int) < max f 0 then (0, false) else firstV (max f 0).toNat (pls idL (T.drop (max f 0).toNat) N)
theorem pls_pw (m : UInt8 → UInt8) (T N : List UInt8) : (pls m T N).Pairwise (· < ·) := by
  unfold pls
  split
  · exact List.Pairwise.nil
  · unfold plU
    exact List.Pairwise.filter _ List.pairwise_lt_range
theorem drop_pls (m : UInt8 → UInt8) (T N : List UInt8) (k : Nat) (hk : k ≤ T.length) : (pls m T N).filter (fun p => decide (k ≤ p)) = (pls m (T.drop k) N).map fun p => k + p := by
  have hst : ∀ a, Stands m T N (k + a) ↔ Stands m (T.drop k) N a := fun a => by
    unfold Stands mt
    rw [List.length_drop]
    constructor
    · rintro ⟨h1, h2⟩
      exact ⟨by omega, fun i hi => by rw [List.getElem?_drop, ← h2 i hi, Nat.add_assoc]⟩
    · rintro ⟨h1, h2⟩
      exact ⟨by omega, fun i hi => by rw [← h2 i hi, List.getElem?_drop, Nat.add_assoc]⟩
  unfold pls
  split
  · rfl
  · rename_i hN
    have hl := List.length_pos_iff.2 hN
    unfold plU
    rw [List.length_drop]
    rcases Nat.lt_or_ge (T.length + 1 - N.length) k with h | h
    · rw [show T.length - k + 1 - N.length = 0 by omega]
      rw [show (List.range 0).filter (fun a => decide (Stands m (T.drop k) N a)) = [] from rfl, List.map_nil, List.filter_eq_nil_iff]
      intro a ha
      have := List.mem_range.1 (List.mem_filter.1 ha).1
      simp
      omega
    · rw [show T.length + 1 - N.length = k + (T.length - k + 1 - N.length) by omega, List.range_add, List.filter_append, List.filter_append]
      have h1 : (List.filter (fun a => decide (Stands m T N a)) (List.range k)).filter (fun p => decide (k ≤ p)) = [] := by
        rw [List.filter_eq_nil_iff]
        intro a ha
        have := List.mem_range.1 (List.mem_filter.1 ha).1
        simp
        omega
      rw [h1, List.nil_append, List.filter_map, List.filter_map, List.filter_filter]
      congr 1
      apply List.filter_congr
      intro a _
      simp [hst]
theorem bs_extract (l : List UInt8) (i j : Nat) : (bsB l).extract i j = bsB ((l.drop i).take (j - i)) := by
  apply ByteArray.ext
  apply Array.toList_inj.1
  rw [ByteArray.data_extract, Array.toList_extract]
  simp [bsB, List.extract]
end Go.Proofs.Ytjifekdjkjnefaa
