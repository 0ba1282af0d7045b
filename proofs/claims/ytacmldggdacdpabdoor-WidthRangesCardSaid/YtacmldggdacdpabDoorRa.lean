/- The walk of width.Ranges: the tables, range by range. -/
import Derived.Test.YtacmldggdacdpabDoorWh
namespace Go.Proofs.YtacmldggdacdpabDoor
open Go.RowKit Go.Shelf

theorem Tryd.infoPair : (Tryd.prog.info? 27).map (fun i => (i.zero, i.size, i.bytes)) = some (some (.agg #[.int .i32 0, .int .i32 0]), 2, 8) := by kernel_rfl
theorem flatV_snoc (l : List (Int × Int)) (x : Int × Int) : flatV (l ++ [x]) = flatV l ++ [.int .i32 x.1, .int .i32 x.2] := by simp [flatV]
theorem flatV_len (l : List (Int × Int)) : (flatV l).length = l.length * 2 := by induction l with
  | nil => rfl
  | cons x l ih => have : flatV (x :: l) = [.int .i32 x.1, .int .i32 x.2] ++ flatV l := rfl
                   rw [this, List.length_append, ih]; simp; omega
theorem take_snocP (l : List (Int × Int)) (k : Nat) (h : k < l.length) : l.take (k + 1) = l.take k ++ [l[k]?.getD (0, 0)] := by
  rw [List.take_succ_eq_append_getElem h, List.getElem?_eq_getElem h]; rfl
theorem cell_new2 (w : World) (a b : Value) (t : TypeId) : ∀ (j : Nat) (u : Value), [a, b][j]? = some u → (w.alloc (.cells #[a, b] t)).cell? ((⟨w.heap.size, 0, none⟩ : Addr).add j) = some u := fun j u h => by
  rw [addr_add, Nat.zero_add]
  refine (cell_of_row _ _ _ _ _ _ (heap_alloc_new w _)).trans ?_
  simpa using h
theorem one2 (a b : Int) : ∀ u ∈ [Value.int .i32 a, Value.int .i32 b], u.oneCell' = true := by simp [Value.oneCell']
def RgPost (l : List (Int × Int)) (w : World) (e : Ending) (w' : World) : Prop :=
  ∃ v, e = .returned v ∧ w'.ownsRow w.heap.size 27 2 v l.length (flatV l) ∧ Below w.heap.size w w'

set_option maxHeartbeats 400000 in
theorem ranges0 (w : World) (ht : Tab w 0 marksL) : Calls Tryd.prog 4 #[.int .i64 0] w (RgPost marksL w) := by
  obtain ⟨i0, hi, hz0, hz1, hz2⟩ := info_parts Tryd.infoPair
  have HT := Lib.hid ht
  clear ht
  go_enter Tryd.func4, Tryd.ntmps4
  go_wp2
  go_loopw [3, 9] (fun v i wr => ∃ k : Nat, k ≤ 19 ∧ i = .int .i64 k ∧ wr.ownsRow w.heap.size 27 2 v k (flatV (marksL.take k)) ∧ Hid (Below w.heap.size w wr)) (fun _ i _ => 19 - (intOf i).toNat)
  case atStart => exact ⟨0, Nat.zero_le _, rfl, World.ownsRow_nil _ _ _ _, Lib.hid (Below.refl _ _)⟩
  case round =>
    obtain ⟨k, hk, rfl, hown, hB⟩ := hrel
    have HO := Lib.hid hown
    clear hown
    by_cases hlt : k < 19
    · obtain ⟨h1, h2⟩ := (HT.out.below hB.out HT.out.1).2 k hlt
      have HS := Lib.hid (take_snocP marksL k hlt)
      have hm1 : k + 1 ≤ maxLen := by unfold maxLen; omega
      have hm2 : (k + 1) * 8 ≤ 140737488355328 := by omega
      have hki : (k : Int) < 19 := by omega
      have HBS : Hid (∀ o : Obj, w.heap.size ≤ (wr.alloc o).heap.size) := Lib.hid fun o => by have := hB.out.size; simp; omega
      have HF : Hid (flatV (marksL.take (k + 1)) = flatV (marksL.take k) ++ [.int .i32 (marksL[k]?.getD (0, 0)).1, .int .i32 (marksL[k]?.getD (0, 0)).2]) := Lib.hid (by rw [HS.out, flatV_snoc])
      clear HS
      generalize (marksL[k]?.getD (0, 0)).1 = lo at *
      generalize (marksL[k]?.getD (0, 0)).2 = hi' at *
      go_wp2_with (at_builtin; go_must (refine wpList_append_own _ rfl _ _ 22 rfl w.heap.size 27 i0 (.agg #[.int .i32 0, .int .i32 0]) 2 8 Tryd.underlying22 hi hz0 hz1 hz2 rfl (by decide) _ _ _ rfl (HO.out.alloc _) ⟨wr.heap.size, 0, none⟩ 1 1 [.int .i32 lo, .int .i32 hi'] rfl rfl (cell_new2 wr _ _ _) (one2 _ _) hm1 hm2 (HBS.out _) ?_; intro v' w9 hown' hgrow _; have hB9 : Hid (Below w.heap.size w w9) := Lib.hid ((hB.out.alloc hB.out.size _).grown hgrow (HBS.out _) (fun k e => (HO.out.lt k e).1)); clear hgrow))
      go_roundw
      case rel => exact ⟨k + 1, hlt, by go_num, by rw [HF.out]; exact hown', hB9⟩
      case measure => simp [intOf]; omega
    · obtain rfl : k = 19 := by omega
      go_wp2
      go_ret
      exact ⟨_, rfl, HO.out, hB.out⟩

set_option maxHeartbeats 400000 in
theorem ranges2 (w : World) (ht : Tab w 1 widesL) : Calls Tryd.prog 4 #[.int .i64 2] w (RgPost widesL w) := by
  obtain ⟨i0, hi, hz0, hz1, hz2⟩ := info_parts Tryd.infoPair
  have HT := Lib.hid ht
  clear ht
  go_enter Tryd.func4, Tryd.ntmps4
  go_wp2
  go_loopw [3, 21] (fun v i wr => ∃ k : Nat, k ≤ 22 ∧ i = .int .i64 k ∧ wr.ownsRow w.heap.size 27 2 v k (flatV (widesL.take k)) ∧ Hid (Below w.heap.size w wr)) (fun _ i _ => 22 - (intOf i).toNat)
  case atStart => exact ⟨0, Nat.zero_le _, rfl, World.ownsRow_nil _ _ _ _, Lib.hid (Below.refl _ _)⟩
  case round =>
    obtain ⟨k, hk, rfl, hown, hB⟩ := hrel
    have HO := Lib.hid hown
    clear hown
    by_cases hlt : k < 22
    · obtain ⟨h1, h2⟩ := (HT.out.below hB.out HT.out.1).2 k hlt
      have HS := Lib.hid (take_snocP widesL k hlt)
      have hm1 : k + 1 ≤ maxLen := by unfold maxLen; omega
      have hm2 : (k + 1) * 8 ≤ 140737488355328 := by omega
      have hki : (k : Int) < 22 := by omega
      have HBS : Hid (∀ o : Obj, w.heap.size ≤ (wr.alloc o).heap.size) := Lib.hid fun o => by have := hB.out.size; simp; omega
      have HF : Hid (flatV (widesL.take (k + 1)) = flatV (widesL.take k) ++ [.int .i32 (widesL[k]?.getD (0, 0)).1, .int .i32 (widesL[k]?.getD (0, 0)).2]) := Lib.hid (by rw [HS.out, flatV_snoc])
      clear HS
      generalize (widesL[k]?.getD (0, 0)).1 = lo at *
      generalize (widesL[k]?.getD (0, 0)).2 = hi' at *
      go_wp2_with (at_builtin; go_must (refine wpList_append_own _ rfl _ _ 22 rfl w.heap.size 27 i0 (.agg #[.int .i32 0, .int .i32 0]) 2 8 Tryd.underlying22 hi hz0 hz1 hz2 rfl (by decide) _ _ _ rfl (HO.out.alloc _) ⟨wr.heap.size, 0, none⟩ 1 1 [.int .i32 lo, .int .i32 hi'] rfl rfl (cell_new2 wr _ _ _) (one2 _ _) hm1 hm2 (HBS.out _) ?_; intro v' w9 hown' hgrow _; have hB9 : Hid (Below w.heap.size w w9) := Lib.hid ((hB.out.alloc hB.out.size _).grown hgrow (HBS.out _) (fun k e => (HO.out.lt k e).1)); clear hgrow))
      go_roundw
      case rel => exact ⟨k + 1, hlt, by go_num, by rw [HF.out]; exact hown', hB9⟩
      case measure => simp [intOf]; omega
    · obtain rfl : k = 22 := by omega
      go_wp2
      go_ret
      exact ⟨_, rfl, HO.out, hB.out⟩

set_option maxHeartbeats 400000 in
theorem rangesX (k : Int) (w : World) (h0 : ¬ k = 0) (h2 : ¬ k = 2) : Calls Tryd.prog 4 #[.int .i64 k] w fun e w' => e = .returned (.slice none 0 0) ∧ w = w' := by
  have e0 : (k == 0) = false := by simpa using h0
  have e2 : (k == 2) = false := by simpa using h2
  clear h0 h2
  go_enter Tryd.func4, Tryd.ntmps4
  go_wp2
  go_ret
  exact ⟨rfl, rfl⟩

end Go.Proofs.YtacmldggdacdpabDoor
