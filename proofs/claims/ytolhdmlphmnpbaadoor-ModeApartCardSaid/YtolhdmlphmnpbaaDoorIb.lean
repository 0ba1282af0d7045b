/- Sets of modes as values; the walks of With, Is, Known, New. -/
import Derived.Test.YtolhdmlphmnpbaaDoorIa
import Derived.Laws.Rows
import Derived.Laws.CopyOwn
namespace Go.Proofs.YtolhdmlphmnpbaaDoor
open Go.RowKit

/-- A set's 18 cells. -/
def sv (f : Nat → Bool) : Array Value := ((List.range 18).map fun k => Value.bool (f k)).toArray
theorem sv_size (f : Nat → Bool) : (sv f).size = 18 := by simp [sv]
theorem sv_one (f : Nat → Bool) : (sv f).all (·.oneCell') = true := by
  rw [Array.all_eq_true_iff_forall_mem]
  intro v hv
  simp [sv] at hv
  obtain ⟨k, _, rfl⟩ := hv
  rfl
def updS (f : Nat → Bool) (i : Int) (on : Bool) (k : Nat) : Bool := if (k : Int) = i then on else f k
theorem sv_at (f : Nat → Bool) (k : Nat) (hk : k < 18) : (sv f)[k]? = some (.bool (f k)) := by simp [sv, hk]
theorem sv_set (f : Nat → Bool) (k : Nat) (hk : k < 18) (on : Bool) : (sv f).setIfInBounds k (.bool on) = sv (updS f k on) := by
  apply Array.ext_getElem?
  intro j
  rw [Array.getElem?_setIfInBounds]
  rcases Nat.lt_or_ge j 18 with hj | hj
  · rw [sv_at _ j hj]
    by_cases e : k = j
    · subst e
      rw [if_pos rfl, if_pos (by rw [sv_size]; exact hk), sv_at _ k hk, show updS f k on k = on from if_pos rfl]
    · rw [if_neg e, sv_at _ j hj, show updS f k on j = f j from if_neg (by omega)]
  · rw [if_neg (by omega), Array.getElem?_eq_none (by rw [sv_size]; exact hj), Array.getElem?_eq_none (by rw [sv_size]; exact hj)]
theorem sv_none (f : Nat → Bool) (i : Int) (h : i < 0) (on : Bool) : sv (updS f i on) = sv f := by
  have : updS f i on = f := by
    funext k
    exact if_neg (by omega)
  rw [this]
theorem infoSet (f : Nat → Bool) : (Tryd.prog.info? 26).map (·.size) = some (sv f).size := by
  rw [sv_size]
  kernel_rfl
abbrev zeroS : Array Value := #[.bool false, .bool false, .bool false, .bool false, .bool false, .bool false, .bool false, .bool false, .bool false, .bool false, .bool false, .bool false, .bool false, .bool false, .bool false, .bool false, .bool false, .bool false]
theorem zeroS_eq : zeroS = sv fun _ => false := rfl
/-- Behind With's call of place: the set's box and the answer's. -/
theorem boxes_of {w w1 : World} {f : Nat → Bool} (hb : Below ((w.alloc (.cells (sv f) 26)).alloc (.cells zeroS 26)).heap.size ((w.alloc (.cells (sv f) 26)).alloc (.cells zeroS 26)) w1) :
    w1.heap[w.heap.size]? = some (.cells (sv f) 26 (0, 0)) ∧ w1.heap[w.heap.size + 1]? = some (.cells zeroS 26 (0, 0)) :=
  ⟨(hb.block _ (by simp; omega)).trans (heap_alloc2_old w _ _), (hb.block _ (by simp)).trans (heap_alloc2_new w _ _)⟩
set_option maxRecDepth 100000 in
set_option maxHeartbeats 4000000 in
theorem with_any (f : Nat → Bool) (p : Bool) (n : Int) (on : Bool) (w : World) (hT : NT w) :
    Calls Tryd.prog 10 #[.agg (sv f), .bool p, .int .i64 n, .bool on] w fun e w' => e = .returned (.agg (sv (updS f (placeZ p n) on))) ∧ Below w.heap.size w w' := by
  have HW := Lib.hid (belA (belA (Below.refl w.heap.size w) (.cells (sv f) 26)) (.cells zeroS 26))
  have HC := Lib.hid (place_any p n ((w.alloc (.cells (sv f) 26)).alloc (.cells zeroS 26)) (hT.below HW.out))
  clear hT
  rcases posQ_cases (fun k => pM k == p && nM k == n) with ⟨k, hk, _, hq, _⟩ | ⟨hq, _⟩
  · change placeZ p n = k at hq
    rw [hq] at HC ⊢
    clear hq
    have hki : (k : Int) < 18 := by omega
    go_enter Tryd.func10, Tryd.ntmps10
    go_wp2_with (first
      | (go_at_call 21; (with_reducible refine (HC.out).mono ?_); rintro e w1 ⟨rfl, hb⟩; obtain ⟨y0, y1⟩ := boxes_of hb; have HB1 := Lib.hid (bel0 HW.out hb); have ck := cell_of_row _ _ k _ _ _ y0; rw [sv_at f k hk] at ck; have fk := frozen_of_row _ _ k _ _ y0; have yn := heap_setCell_same w1 _ k _ _ (.bool on) y0; rw [sv_set f k hk] at yn; have z1 : (w1.setCell ⟨w.heap.size, k, none⟩ (.bool on)).heap[w.heap.size + 1]? = _ := (heap_setCell_other w1 ⟨w.heap.size, k, none⟩ (w.heap.size + 1) (.bool on) (by simp)).trans y1; have YN := Lib.hid yn; have Z1 := Lib.hid z1; clear hb y0 y1 yn z1)
      | (refine wpList_load_row rfl 26 _ rfl w.heap.size rfl 26 _ (0, 0) _ YN.out Tryd.underlying26 rfl (infoSet _) ?_)
      | (refine wpList_store_row rfl 26 _ _ rfl (w.heap.size + 1) _ rfl rfl 26 _ Z1.out (infoSet _) (by rw [zeroS_eq, sv_size, sv_size]) (sv_one _) ?_))
    refine bodyPost_ret (results_cell_row rfl _ _ (w.heap.size + 1) _ _ _ _ rfl (setRow_heap _ _ _ _ _ _ Z1.out) Tryd.underlying26 rfl (infoSet _)) rfl ⟨rfl, ?_⟩
    exact below_setRow (HB1.out.setCell (p := ⟨w.heap.size, k, none⟩) (Nat.le_refl _) _) (Nat.le_succ _) _
  · change placeZ p n = -1 at hq
    rw [hq] at HC ⊢
    rw [sv_none f (-1) (by omega) on]
    clear hq
    go_enter Tryd.func10, Tryd.ntmps10
    go_wp2_with (first
      | (go_at_call 21; (with_reducible refine (HC.out).mono ?_); rintro e w1 ⟨rfl, hb⟩; obtain ⟨y0, y1⟩ := boxes_of hb; have HB1 := Lib.hid (bel0 HW.out hb); have YN := Lib.hid y0; have Z1 := Lib.hid y1; clear hb y0 y1)
      | (refine wpList_load_row rfl 26 _ rfl w.heap.size rfl 26 _ (0, 0) _ YN.out Tryd.underlying26 rfl (infoSet _) ?_)
      | (refine wpList_store_row rfl 26 _ _ rfl (w.heap.size + 1) _ rfl rfl 26 _ Z1.out (infoSet _) (by rw [zeroS_eq, sv_size, sv_size]) (sv_one _) ?_))
    refine bodyPost_ret (results_cell_row rfl _ _ (w.heap.size + 1) _ _ _ _ rfl (setRow_heap _ _ _ _ _ _ Z1.out) Tryd.underlying26 rfl (infoSet _)) rfl ⟨rfl, ?_⟩
    exact below_setRow HB1.out (Nat.le_succ _) _
end Go.Proofs.YtolhdmlphmnpbaaDoor
