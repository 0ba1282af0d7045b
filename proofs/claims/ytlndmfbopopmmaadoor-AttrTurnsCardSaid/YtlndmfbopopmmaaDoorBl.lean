/- The walks of attr's awake and of the laws AttrRight, AttrKeeps. -/
import Derived.Test.YtlndmfbopopmmaaDoorBk
namespace Go.Proofs.YtlndmfbopopmmaaDoor
open Go.RowKit

def aw5 (w : World) : World := ((((w.alloc (.cells #[.int .i64 1] 3)).alloc (.cells #[.int .i64 38] 3)).alloc (.cells #[.int .i64 5] 3)).alloc (.cells #[.int .i64 200] 3)).alloc (.cells #[.slice (some ⟨w.heap.size, 0, none⟩) 1 1, .slice (some ⟨w.heap.size + 1, 0, none⟩) 1 1, .slice (some ⟨w.heap.size + 2, 0, none⟩) 1 1, .slice (some ⟨w.heap.size + 3, 0, none⟩) 1 1] 40)
theorem aw5_below (w : World) : Below w.heap.size w (aw5 w) := belA (belA (belA (belA (belA (Below.refl _ _) _) _) _) _) _
theorem aw5_rg (w : World) : RG (aw5 w) (aw5 w).heap.size (some ⟨w.heap.size + 4, 0, none⟩) [[1], [38], [5], [200]] := fun _ => by
  have hz : (aw5 w).heap.size = w.heap.size + 5 := by unfold aw5; simp
  have h4 : (aw5 w).heap[w.heap.size + 4]? = some (.cells #[.slice (some ⟨w.heap.size, 0, none⟩) 1 1, .slice (some ⟨w.heap.size + 1, 0, none⟩) 1 1, .slice (some ⟨w.heap.size + 2, 0, none⟩) 1 1, .slice (some ⟨w.heap.size + 3, 0, none⟩) 1 1] 40 (0, 0)) := by
    have := heap_alloc_new ((((w.alloc (.cells #[.int .i64 1] 3)).alloc (.cells #[.int .i64 38] 3)).alloc (.cells #[.int .i64 5] 3)).alloc (.cells #[.int .i64 200] 3)) (.cells #[.slice (some ⟨w.heap.size, 0, none⟩) 1 1, .slice (some ⟨w.heap.size + 1, 0, none⟩) 1 1, .slice (some ⟨w.heap.size + 2, 0, none⟩) 1 1, .slice (some ⟨w.heap.size + 3, 0, none⟩) 1 1] 40)
    rw [show ((((w.alloc (.cells #[.int .i64 1] 3)).alloc (.cells #[.int .i64 38] 3)).alloc (.cells #[.int .i64 5] 3)).alloc (.cells #[.int .i64 200] 3)).heap.size = w.heap.size + 4 by simp] at this
    exact this
  have h3 : (aw5 w).heap[w.heap.size + 3]? = some (.cells #[.int .i64 200] 3 (0, 0)) := by
    have := heap_alloc_new (((w.alloc (.cells #[.int .i64 1] 3)).alloc (.cells #[.int .i64 38] 3)).alloc (.cells #[.int .i64 5] 3)) (.cells #[.int .i64 200] 3)
    rw [show (((w.alloc (.cells #[.int .i64 1] 3)).alloc (.cells #[.int .i64 38] 3)).alloc (.cells #[.int .i64 5] 3)).heap.size = w.heap.size + 3 by simp] at this
    exact alloc_block this
  have h2 : (aw5 w).heap[w.heap.size + 2]? = some (.cells #[.int .i64 5] 3 (0, 0)) := by
    have := heap_alloc_new ((w.alloc (.cells #[.int .i64 1] 3)).alloc (.cells #[.int .i64 38] 3)) (.cells #[.int .i64 5] 3)
    rw [show ((w.alloc (.cells #[.int .i64 1] 3)).alloc (.cells #[.int .i64 38] 3)).heap.size = w.heap.size + 2 by simp] at this
    exact alloc_block (alloc_block this)
  have h1 : (aw5 w).heap[w.heap.size + 1]? = some (.cells #[.int .i64 38] 3 (0, 0)) := by
    have := heap_alloc_new (w.alloc (.cells #[.int .i64 1] 3)) (.cells #[.int .i64 38] 3)
    rw [show (w.alloc (.cells #[.int .i64 1] 3)).heap.size = w.heap.size + 1 by simp] at this
    exact alloc_block (alloc_block (alloc_block this))
  have h0 : (aw5 w).heap[w.heap.size]? = some (.cells #[.int .i64 1] 3 (0, 0)) := alloc_block (alloc_block (alloc_block (alloc_block (heap_alloc_new w _))))
  have row : ∀ j x, j ≤ 3 → (aw5 w).heap[w.heap.size + j]? = some (.cells #[.int .i64 x] 3 (0, 0)) → RI (aw5 w) (aw5 w).heap.size (some ⟨w.heap.size + j, 0, none⟩) [x] := fun j x hj h _ => ⟨w.heap.size + j, 0, rfl, by omega, fun k hk => by
    rw [cell_of_row _ _ _ _ _ _ h]
    match k, hk with
    | 0, _ => rfl⟩
  refine ⟨w.heap.size + 4, 0, rfl, by omega, fun i hi => ?_⟩
  rw [Nat.zero_add, cell_of_row _ _ _ _ _ _ h4]
  match i, hi with
  | 0, _ => exact ⟨_, 1, rfl, row 0 1 (by decide) h0, by simp⟩
  | 1, _ => exact ⟨_, 1, rfl, row 1 38 (by decide) h1, by simp⟩
  | 2, _ => exact ⟨_, 1, rfl, row 2 5 (by decide) h2, by simp⟩
  | 3, _ => exact ⟨_, 1, rfl, row 3 200 (by decide) h3, by simp⟩

set_option maxHeartbeats 2000000 in
theorem awakeA_any (w : World) (hT : TT w) (hT10 : T10 w.heap.size w) : Calls Tryd.prog 10 #[] w fun e w' => e = .returned (.bool true) ∧ Below w.heap.size w w' := by
  have HTU : Hid (Calls Tryd.prog 13 #[.agg #[.int .i64 0, .int .i64 0, .int .i64 0, .int .i64 0, .int .i64 0], .slice (some ⟨w.heap.size + 4, 0, none⟩) 4 4] (aw5 w) fun e w' => e = .returned (.agg #[.int .i64 1, .int .i64 200, .int .i64 0, .int .i64 0, .int .i64 1]) ∧ Below (aw5 w).heap.size (aw5 w) w') := Lib.hid (by
    have h := turn_any AT.zero (some ⟨w.heap.size + 4, 0, none⟩) [[1], [38], [5], [200]] 4 4 rfl (by decide) (by simp) (by decide) (aw5 w) (hT.below (aw5_below w)) (aw5_rg w)
    rw [aw_turn] at h
    exact h)
  have HTX : Hid (∀ W, Below w.heap.size w W → Calls Tryd.prog 15 #[.agg #[.int .i64 1, .int .i64 200, .int .i64 0, .int .i64 0, .int .i64 1]] W fun e w' => e = .returned (.string ⟨#[48, 59, 49, 59, 51, 56, 59, 53, 59, 50, 48, 48]⟩) ∧ Below W.heap.size W w') := Lib.hid fun W hW => by
    have h := attrText_any ⟨1, 200, 0, 0, 1⟩ W (by decide +kernel) (hT.below hW) (hT10.on hW hW.size)
    rw [aw_text] at h
    exact h
  have HB5 := Lib.hid (aw5_below w)
  have hg := Attr_guard
  have hq := fun W => eqAttr W 1 200 0 0 1 1 200 0 0 1
  have he : eqAT ⟨1, 200, 0, 0, 1⟩ ⟨1, 200, 0, 0, 1⟩ = true := by decide
  rw [he] at hq
  clear he hT hT10
  unfold aw5 at HTU HB5
  go_enter Tryd.func10, Tryd.ntmps10
  go_wp2_with (first
    | (go_at_call 13; (with_reducible refine HTU.out.mono ?_); rintro e w2 ⟨rfl, hb2⟩; have HB2 := Lib.hid (bel0 HB5.out hb2); clear hb2)
    | (go_at_call 15; (with_reducible refine (HTX.out _ (belA HB2.out _)).mono ?_); rintro e w3 ⟨rfl, hb3⟩; have HB3 := Lib.hid (bel0 (belA HB2.out _) hb3); clear hb3))
  go_ret
  exact ⟨rfl, HB3.out⟩

end Go.Proofs.YtlndmfbopopmmaaDoor
