/- The walks of param's laws: awake, ParamParses. -/
import Derived.Test.YtlolbfbkoimjkaaDoorPf
namespace Go.Proofs.YtlolbfbkoimjkaaDoor
open Go.RowKit

/-- strings.Cut's variable is there. -/
def PT (w : World) : Prop := ∃ ml, w.cell? ⟨3, 0, none⟩ = some (.int .i64 ml)
theorem PT.below {w w' : World} (h : PT w) (hb : Below w.heap.size w w') : PT w' := by
  obtain ⟨ml, hm⟩ := h
  exact ⟨ml, (hb.cell (p := ⟨3, 0, none⟩) (block_lt_of_cell hm)).trans hm⟩
theorem PT.parse {w : World} (h : PT w) (s : ByteArray) (hs : s.size ≤ 1000000) : Calls Tryd.prog 32 #[.string s] w (ParsePost s.data.toList w) := by
  obtain ⟨ml, hm⟩ := h
  exact parse_any s w hs ml hm
theorem HZ_row (l : List UInt8) (i : Nat) : ((HZ l)[i]?.getD []).length ≤ 9223372036854775807 := by
  unfold HZ
  rw [List.getElem?_map]
  cases ((GZ l).take 32)[i]? with
  | none => simp
  | some r => simp; omega
theorem HZ_len (l : List UInt8) : (HZ l).length ≤ 32 := by
  unfold HZ
  simp
  omega
def aw4 (w : World) : World := (((w.alloc (.cells #[.int .i64 1] 3)).alloc (.cells #[.int .i64 (-1)] 3)).alloc (.cells #[.int .i64 38, .int .i64 5] 3)).alloc (.cells #[.slice (some ⟨w.heap.size, 0, none⟩) 1 1, .slice (some ⟨w.heap.size + 1, 0, none⟩) 1 1, .slice (some ⟨w.heap.size + 2, 0, none⟩) 2 2] 42)
theorem aw4_rg (w : World) : RG (aw4 w) (aw4 w).heap.size (some ⟨w.heap.size + 3, 0, none⟩) [[1], [-1], [38, 5]] := fun _ => by
  have z3 : (((w.alloc (.cells #[.int .i64 1] 3)).alloc (.cells #[.int .i64 (-1)] 3)).alloc (.cells #[.int .i64 38, .int .i64 5] 3)).heap.size = w.heap.size + 3 := by simp
  have hz : (aw4 w).heap.size = w.heap.size + 4 := by unfold aw4; simp
  have h3 : (aw4 w).heap[w.heap.size + 3]? = some (.cells #[.slice (some ⟨w.heap.size, 0, none⟩) 1 1, .slice (some ⟨w.heap.size + 1, 0, none⟩) 1 1, .slice (some ⟨w.heap.size + 2, 0, none⟩) 2 2] 42 (0, 0)) := by
    have := heap_alloc_new (((w.alloc (.cells #[.int .i64 1] 3)).alloc (.cells #[.int .i64 (-1)] 3)).alloc (.cells #[.int .i64 38, .int .i64 5] 3)) (.cells #[.slice (some ⟨w.heap.size, 0, none⟩) 1 1, .slice (some ⟨w.heap.size + 1, 0, none⟩) 1 1, .slice (some ⟨w.heap.size + 2, 0, none⟩) 2 2] 42)
    rw [z3] at this
    exact this
  have h2 : (aw4 w).heap[w.heap.size + 2]? = some (.cells #[.int .i64 38, .int .i64 5] 3 (0, 0)) := by
    have := heap_alloc_new ((w.alloc (.cells #[.int .i64 1] 3)).alloc (.cells #[.int .i64 (-1)] 3)) (.cells #[.int .i64 38, .int .i64 5] 3)
    rw [show ((w.alloc (.cells #[.int .i64 1] 3)).alloc (.cells #[.int .i64 (-1)] 3)).heap.size = w.heap.size + 2 by simp] at this
    exact alloc_block this
  have h1 : (aw4 w).heap[w.heap.size + 1]? = some (.cells #[.int .i64 (-1)] 3 (0, 0)) := by
    have := heap_alloc_new (w.alloc (.cells #[.int .i64 1] 3)) (.cells #[.int .i64 (-1)] 3)
    rw [show (w.alloc (.cells #[.int .i64 1] 3)).heap.size = w.heap.size + 1 by simp] at this
    exact alloc_block (alloc_block this)
  have h0 : (aw4 w).heap[w.heap.size]? = some (.cells #[.int .i64 1] 3 (0, 0)) := alloc_block (alloc_block (alloc_block (heap_alloc_new w _)))
  refine ⟨w.heap.size + 3, 0, rfl, by omega, fun i hi => ?_⟩
  rw [Nat.zero_add, cell_of_row _ _ _ _ _ _ h3]
  match i, hi with
  | 0, _ => exact ⟨_, 1, rfl, fun _ => ⟨w.heap.size, 0, rfl, by omega, fun k hk => by
      rw [cell_of_row _ _ _ _ _ _ h0]
      match k, hk with
      | 0, _ => rfl⟩, by simp⟩
  | 1, _ => exact ⟨_, 1, rfl, fun _ => ⟨w.heap.size + 1, 0, rfl, by omega, fun k hk => by
      rw [cell_of_row _ _ _ _ _ _ h1]
      match k, hk with
      | 0, _ => rfl⟩, by simp⟩
  | 2, _ => exact ⟨_, 2, rfl, fun _ => ⟨w.heap.size + 2, 0, rfl, by omega, fun k hk => by
      rw [cell_of_row _ _ _ _ _ _ h2]
      match k, hk with
      | 0, _ => rfl
      | 1, _ => rfl⟩, by simp⟩

end Go.Proofs.YtlolbfbkoimjkaaDoor
