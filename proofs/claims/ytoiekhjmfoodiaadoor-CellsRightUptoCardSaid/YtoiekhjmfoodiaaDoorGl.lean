/- Blanks. -/
import Derived.Test.YtoiekhjmfoodiaaDoorGk
import Derived.Laws.MakeOwn
namespace Go.Proofs.YtoiekhjmfoodiaaDoor
open Go.RowKit

def zC : Array Value := #[.int .i32 0, .string ⟨#[]⟩, .int .i64 0, .int .i64 0, .int .i64 0, .int .i64 0, .int .i64 0, .int .i64 0]
theorem made_at (n k j : Nat) (hk : k < n) (hj : j < 8) : (madeCells zC (n * 8))[k * 8 + j]? = some (zC[j]!) := by
  have h : k * 8 + j < n * 8 := by omega
  unfold madeCells
  rw [Array.getElem?_map, Array.getElem?_range, if_pos h]
  show some (zC[(k * 8 + j) % 8]!) = _
  rw [show (k * 8 + j) % 8 = j by omega]
theorem mk_cells (n : Nat) (hn : n ≤ 1000) (W : World) : (Instr.makeSlice 22 (.int .i64 n) (.int .i64 n)).run Tryd.prog W = .ok (.slice (some ⟨W.heap.size, 0, none⟩) n n) (W.alloc (.cells (madeCells zC (n * 8)) 44)) := by
  obtain ⟨i0, hi, hz0, hz1, hz2⟩ := info_parts infoCell
  have h := run_make (P := Tryd.prog) W 22 44 i0 _ Tryd.underlying22 hi hz0 .i64 .i64 n n (by omega) (Int.le_refl _) (by rw [hz2]; omega) (by omega)
  rw [Int.toNat_natCast, hz1] at h
  exact h
theorem MC.made (W : World) (n : Nat) : MC (W.alloc (.cells (madeCells zC (n * 8)) 44)) W.heap.size (List.replicate n CC.zero) := by
  refine ⟨⟨_, heap_alloc_new W _⟩, fun k hk => C8.of fun j u hj => ?_⟩
  have hk' : k < n := by simpa using hk
  have hj8 : j < 8 := by have := (List.getElem?_eq_some_iff.1 hj).1; simpa [encC] using this
  have e : Ac (List.replicate n CC.zero) k = CC.zero := by
    unfold Ac
    rw [List.getElem?_replicate, if_pos hk']
    rfl
  rw [e] at hj
  rw [cell_of_row _ _ _ _ _ _ (heap_alloc_new W _), made_at n k j hk' hj8, ← hj]
  match j, hj8 with
  | 0, _ => rfl
  | 1, _ => rfl
  | 2, _ => rfl
  | 3, _ => rfl
  | 4, _ => rfl
  | 5, _ => rfl
  | 6, _ => rfl
  | 7, _ => rfl
theorem blankK_eq (L : List CC) (s : Nat) (x : CC) : ∀ k, s + k ≤ L.length → blankK L s x k = L.take s ++ List.replicate k x ++ L.drop (s + k)
  | 0, _ => by simp [blankK]
  | k + 1, h => by
    unfold blankK
    rw [blankK_eq L s x k (by omega), List.drop_eq_getElem_cons (by omega : s + k < L.length), List.set_append_right _ _ (by simp; omega)]
    have e : s + k - (L.take s ++ List.replicate k x).length = 0 := by simp; omega
    rw [e, List.set_cons_zero, List.replicate_succ']
    simp [Nat.add_assoc]
theorem blanks_is (n : Nat) (x : CC) : blankK (List.replicate n CC.zero) 0 x n = List.replicate n x := by
  rw [blankK_eq _ _ _ _ (by simp)]
  simp
set_option maxRecDepth 100000 in
set_option maxHeartbeats 2000000 in
theorem blanks_any (z k n : Int) (m : Nat) (hm : max (min z 1000) 0 = (m : Int)) (w : World) :
    Calls Tryd.prog 18 #[.int .i64 z, .agg #[.int .i64 k, .int .i64 n]] w fun e w' => ∃ v, e = .returned v ∧ OC w.heap.size w' v (List.replicate m (blankC k n)) ∧ Below w.heap.size w w' := by
  have hm1 : m ≤ 1000 := by omega
  have hmk := mk_cells m hm1
  have hb0 := belA (Below.refl w.heap.size w) (.cells #[.int .i64 k, .int .i64 n] 32)
  have HB0 := Lib.hid (belA hb0 (.cells (madeCells zC (m * 8)) 44))
  have HM0 := Lib.hid (MC.made (w.alloc (.cells #[.int .i64 k, .int .i64 n] 32)) m)
  have HBL : Hid (∀ g W, MC W g (List.replicate m CC.zero) → Calls Tryd.prog 35 #[.slice (some ⟨g, 0, none⟩) m m, .agg #[.int .i64 k, .int .i64 n]] W fun e w' => e = .returned (.tuple #[]) ∧ MC w' g (List.replicate m (blankC k n)) ∧ KG g W w') := Lib.hid fun g W h => by
    have := blank_any g 0 m m (List.replicate m CC.zero) k n (by simp) (by simp; omega) W h
    rwa [Nat.zero_mul, blanks_is] at this
  have hs : (w.alloc (.cells #[.int .i64 k, .int .i64 n] 32)).heap.size = w.heap.size + 1 := by simp
  rw [hs] at HM0
  clear hb0 hs
  generalize madeCells zC (m * 8) = mc at *
  rcases (by omega : 1000 < z ∨ z < 0 ∨ (0 ≤ z ∧ z ≤ 1000)) with hz | hz | hz
  · have hmk2 : ∀ W, (Instr.makeSlice 22 (.int .i64 1000) (.int .i64 1000)).run Tryd.prog W = .ok (.slice (some ⟨W.heap.size, 0, none⟩) m m) (W.alloc (.cells mc 44)) := by rw [show (1000 : Int) = (m : Int) by omega]; exact hmk
    clear hmk
    go_enter Tryd.func18, Tryd.ntmps18
    go_wp2_with (go_at_call 35; (with_reducible refine (HBL.out _ _ HM0.out).mono ?_); rintro e w1 ⟨rfl, hm1, hk1⟩; have HMM := Lib.hid hm1; have HBB := Lib.hid (Below.ofKG HB0.out hk1 (by omega) (HB0.out).size); clear hm1 hk1)
    all_goals
      first
        | (exfalso; omega)
        | (go_ret
           exact ⟨.slice (some ⟨w.heap.size + 1, 0, none⟩) m m, rfl, .inr ⟨_, m, by rw [List.length_replicate], by omega, by rw [List.length_replicate]; exact Nat.le_refl _, HMM.out⟩, HBB.out⟩)
  · have hmk2 : ∀ W, (Instr.makeSlice 22 (.int .i64 0) (.int .i64 0)).run Tryd.prog W = .ok (.slice (some ⟨W.heap.size, 0, none⟩) m m) (W.alloc (.cells mc 44)) := by rw [show (0 : Int) = (m : Int) by omega]; exact hmk
    clear hmk
    go_enter Tryd.func18, Tryd.ntmps18
    go_wp2_with (go_at_call 35; (with_reducible refine (HBL.out _ _ HM0.out).mono ?_); rintro e w1 ⟨rfl, hm1, hk1⟩; have HMM := Lib.hid hm1; have HBB := Lib.hid (Below.ofKG HB0.out hk1 (by omega) (HB0.out).size); clear hm1 hk1)
    all_goals
      first
        | (exfalso; omega)
        | (go_ret
           exact ⟨.slice (some ⟨w.heap.size + 1, 0, none⟩) m m, rfl, .inr ⟨_, m, by rw [List.length_replicate], by omega, by rw [List.length_replicate]; exact Nat.le_refl _, HMM.out⟩, HBB.out⟩)
  · have hmk2 : ∀ W, (Instr.makeSlice 22 (.int .i64 z) (.int .i64 z)).run Tryd.prog W = .ok (.slice (some ⟨W.heap.size, 0, none⟩) m m) (W.alloc (.cells mc 44)) := by rw [show (z : Int) = (m : Int) by omega]; exact hmk
    clear hmk
    go_enter Tryd.func18, Tryd.ntmps18
    go_wp2_with (go_at_call 35; (with_reducible refine (HBL.out _ _ HM0.out).mono ?_); rintro e w1 ⟨rfl, hm1, hk1⟩; have HMM := Lib.hid hm1; have HBB := Lib.hid (Below.ofKG HB0.out hk1 (by omega) (HB0.out).size); clear hm1 hk1)
    all_goals
      first
        | (exfalso; omega)
        | (go_ret
           exact ⟨.slice (some ⟨w.heap.size + 1, 0, none⟩) m m, rfl, .inr ⟨_, m, by rw [List.length_replicate], by omega, by rw [List.length_replicate]; exact Nat.le_refl _, HMM.out⟩, HBB.out⟩)
end Go.Proofs.YtoiekhjmfoodiaaDoor
