/- The walk of within. -/
import Derived.Test.YtlndmfbopopmmaaDoorAg
import Derived.Deep.DeepCutAuto
import Derived.Deep.RegionWith
namespace Go.Proofs.YtlndmfbopopmmaaDoor
open Go.RowKit

theorem colorOfV_form (k0 n0 kind : Int) (xs : List Int) : ∃ k1 n1, colorOfV k0 n0 kind xs = .agg #[.int .i64 k1, .int .i64 n1] := by
  unfold colorOfV
  split
  · exact ⟨_, _, rfl⟩
  · exact ⟨_, _, rfl⟩
theorem RI.drop {w : World} {B b off : Nat} {xs : List Int} (h : RI w B (some ⟨b, off, none⟩) xs) (j : Nat) (hj : j ≤ xs.length) : RI w B (some ⟨b, off + j, none⟩) (xs.drop j) := fun hn => by
  obtain ⟨b', off', e, hlt, hc⟩ := h (by rintro rfl; simp at hn)
  injection e with e
  injection e with e1 e2 e3
  subst e1; subst e2
  refine ⟨b, off + j, rfl, hlt, fun k hk => ?_⟩
  rw [List.length_drop] at hk
  rw [Nat.add_assoc, hc (j + k) (by omega), List.getElem?_drop]
def withinV (k0 n0 : Int) (xs : List Int) : Value := if xs[1]?.getD 0 = 5 ∧ xs.length = 3 then colorOfV k0 n0 1 (xs.drop 2) else if xs[1]?.getD 0 = 2 ∧ (xs.length = 5 ∨ xs.length = 6) then colorOfV k0 n0 2 (xs.drop (xs.length - 3)) else .agg #[.int .i64 k0, .int .i64 n0]

set_option maxHeartbeats 4000000 in
theorem within_five (k0 n0 : Int) (b off c : Nat) (xs : List Int) (hl : xs.length = 3) (hc3 : 3 ≤ c) (h5 : xs[1]?.getD 0 = 5) (w : World) (hR : RI w w.heap.size (some ⟨b, off, none⟩) xs) :
    Calls Tryd.prog 34 #[.agg #[.int .i64 k0, .int .i64 n0], .slice (some ⟨b, off, none⟩) 3 c] w fun e w' => e = .returned (withinV k0 n0 xs) ∧ Below w.heap.size w w' := by
  rw [show withinV k0 n0 xs = colorOfV k0 n0 1 (xs.drop 2) from if_pos ⟨h5, hl⟩]
  obtain ⟨b', off', e, hlt, hcs⟩ := hR (by rintro rfl; simp at hl)
  injection e with e
  injection e with e1 e2 e3
  subst e1; subst e2
  have hy := hcs 1 (by omega)
  rw [h5] at hy
  have HC : Hid (∀ W, Below w.heap.size w W → Calls Tryd.prog 38 #[.agg #[.int .i64 k0, .int .i64 n0], .int .i64 1, .slice (some ⟨b, off + 2, none⟩) 1 (c - 2)] W fun e w' => e = .returned (colorOfV k0 n0 1 (xs.drop 2)) ∧ Below W.heap.size W w') := Lib.hid fun W hW => colorOf_any k0 n0 1 _ (xs.drop 2) 1 (c - 2) (by simp [hl]) (by decide) W (((hR.drop 2 (by omega)).below hW).more hW.size)
  obtain ⟨k1, n1, hv⟩ := colorOfV_form k0 n0 1 (xs.drop 2)
  rw [hv] at HC ⊢
  have hci : (3 : Int) ≤ c := by omega
  have hc2 : 2 ≤ c := by omega
  have hcne : ¬ c = 2 := by omega
  clear hv hR hcs h5 hl
  go_enter Tryd.func34, Tryd.ntmps34
  go_upto_region 3 with fail
  go_region_with (go_at_call 38; ((with_reducible refine (HC.out _ (belA (belA (Below.refl _ _) _) _).drew).mono ?_); rintro e w5 ⟨rfl, hb5⟩; obtain ⟨hc5, hf5⟩ := bcell (belD hb5); have hz5 := sz2 (belD hb5); have HB5 := Lib.hid (bel2 (Below.refl _ w) (belD hb5)); have r0 : w5.cell? ⟨w.heap.size + 1, 0, none⟩ = some (.int .i64 0) := (hc5 _ _ (by simp <;> omega)).trans (by simp); have r1 : w5.cell? ⟨w.heap.size + 1, 1, none⟩ = some (.int .i64 0) := (hc5 _ _ (by simp <;> omega)).trans (by simp)))
  all_goals
    go_wp2
    exact bodyPost_ret (v := .agg #[.int .i64 k1, .int .i64 n1]) (by simp [results, Tryd.results34, go_sem, r0, r1]) rfl ⟨rfl, ((HB5.out.setCell (p := ⟨w.heap.size + 1, 0, none⟩) (Nat.le_succ _) _).setCell (p := ⟨w.heap.size + 1, 1, none⟩) (Nat.le_succ _) _)⟩

set_option maxHeartbeats 4000000 in
theorem within_mix5 (k0 n0 : Int) (b off c : Nat) (xs : List Int) (hl : xs.length = 5) (hc3 : 5 ≤ c) (h5 : xs[1]?.getD 0 = 2) (w : World) (hR : RI w w.heap.size (some ⟨b, off, none⟩) xs) :
    Calls Tryd.prog 34 #[.agg #[.int .i64 k0, .int .i64 n0], .slice (some ⟨b, off, none⟩) 5 c] w fun e w' => e = .returned (withinV k0 n0 xs) ∧ Below w.heap.size w w' := by
  rw [show withinV k0 n0 xs = colorOfV k0 n0 2 (xs.drop 2) from by
    unfold withinV
    rw [if_neg (by omega), if_pos ⟨h5, by omega⟩, hl]]
  obtain ⟨b', off', e, hlt, hcs⟩ := hR (by rintro rfl; simp at hl)
  injection e with e
  injection e with e1 e2 e3
  subst e1; subst e2
  have hy := hcs 1 (by omega)
  rw [h5] at hy
  have HC : Hid (∀ W, Below w.heap.size w W → Calls Tryd.prog 38 #[.agg #[.int .i64 k0, .int .i64 n0], .int .i64 2, .slice (some ⟨b, off + 2, none⟩) 3 (c - 2)] W fun e w' => e = .returned (colorOfV k0 n0 2 (xs.drop 2)) ∧ Below W.heap.size W w') := Lib.hid fun W hW => colorOf_any k0 n0 2 _ (xs.drop 2) 3 (c - 2) (by simp [hl]) (by decide) W (((hR.drop 2 (by omega)).below hW).more hW.size)
  obtain ⟨k1, n1, hv⟩ := colorOfV_form k0 n0 2 (xs.drop 2)
  rw [hv] at HC ⊢
  have hci : (5 : Int) ≤ c := by omega
  have hc2 : 2 ≤ c := by omega
  have hcne : ¬ c = 2 := by omega
  clear hv hR hcs h5 hl
  go_enter Tryd.func34, Tryd.ntmps34
  go_upto_region 5 with fail
  go_region_with (go_at_call 38; ((with_reducible refine (HC.out _ (belA (belA (Below.refl _ _) _) _).drew).mono ?_); rintro e w5 ⟨rfl, hb5⟩; obtain ⟨hc5, hf5⟩ := bcell (belD hb5); have hz5 := sz2 (belD hb5); have HB5 := Lib.hid (bel2 (Below.refl _ w) (belD hb5)); have r0 : w5.cell? ⟨w.heap.size + 1, 0, none⟩ = some (.int .i64 0) := (hc5 _ _ (by simp <;> omega)).trans (by simp); have r1 : w5.cell? ⟨w.heap.size + 1, 1, none⟩ = some (.int .i64 0) := (hc5 _ _ (by simp <;> omega)).trans (by simp)))
  all_goals
    go_wp2
    exact bodyPost_ret (v := .agg #[.int .i64 k1, .int .i64 n1]) (by simp [results, Tryd.results34, go_sem, r0, r1]) rfl ⟨rfl, ((HB5.out.setCell (p := ⟨w.heap.size + 1, 0, none⟩) (Nat.le_succ _) _).setCell (p := ⟨w.heap.size + 1, 1, none⟩) (Nat.le_succ _) _)⟩

set_option maxHeartbeats 4000000 in
theorem within_mix6 (k0 n0 : Int) (b off c : Nat) (xs : List Int) (hl : xs.length = 6) (hc3 : 6 ≤ c) (h5 : xs[1]?.getD 0 = 2) (w : World) (hR : RI w w.heap.size (some ⟨b, off, none⟩) xs) :
    Calls Tryd.prog 34 #[.agg #[.int .i64 k0, .int .i64 n0], .slice (some ⟨b, off, none⟩) 6 c] w fun e w' => e = .returned (withinV k0 n0 xs) ∧ Below w.heap.size w w' := by
  rw [show withinV k0 n0 xs = colorOfV k0 n0 2 (xs.drop 3) from by
    unfold withinV
    rw [if_neg (by omega), if_pos ⟨h5, by omega⟩, hl]]
  obtain ⟨b', off', e, hlt, hcs⟩ := hR (by rintro rfl; simp at hl)
  injection e with e
  injection e with e1 e2 e3
  subst e1; subst e2
  have hy := hcs 1 (by omega)
  rw [h5] at hy
  have HC : Hid (∀ W, Below w.heap.size w W → Calls Tryd.prog 38 #[.agg #[.int .i64 k0, .int .i64 n0], .int .i64 2, .slice (some ⟨b, off + 3, none⟩) 3 (c - 3)] W fun e w' => e = .returned (colorOfV k0 n0 2 (xs.drop 3)) ∧ Below W.heap.size W w') := Lib.hid fun W hW => colorOf_any k0 n0 2 _ (xs.drop 3) 3 (c - 3) (by simp [hl]) (by decide) W (((hR.drop 3 (by omega)).below hW).more hW.size)
  obtain ⟨k1, n1, hv⟩ := colorOfV_form k0 n0 2 (xs.drop 3)
  rw [hv] at HC ⊢
  have hci : (6 : Int) ≤ c := by omega
  have hc2 : 3 ≤ c := by omega
  have hcne : ¬ c = 3 := by omega
  clear hv hR hcs h5 hl
  go_enter Tryd.func34, Tryd.ntmps34
  go_upto_region 5 with fail
  go_region_with (go_at_call 38; ((with_reducible refine (HC.out _ (belA (belA (Below.refl _ _) _) _).drew).mono ?_); rintro e w5 ⟨rfl, hb5⟩; obtain ⟨hc5, hf5⟩ := bcell (belD hb5); have hz5 := sz2 (belD hb5); have HB5 := Lib.hid (bel2 (Below.refl _ w) (belD hb5)); have r0 : w5.cell? ⟨w.heap.size + 1, 0, none⟩ = some (.int .i64 0) := (hc5 _ _ (by simp <;> omega)).trans (by simp); have r1 : w5.cell? ⟨w.heap.size + 1, 1, none⟩ = some (.int .i64 0) := (hc5 _ _ (by simp <;> omega)).trans (by simp)))
  all_goals
    go_wp2
    exact bodyPost_ret (v := .agg #[.int .i64 k1, .int .i64 n1]) (by simp [results, Tryd.results34, go_sem, r0, r1]) rfl ⟨rfl, ((HB5.out.setCell (p := ⟨w.heap.size + 1, 0, none⟩) (Nat.le_succ _) _).setCell (p := ⟨w.heap.size + 1, 1, none⟩) (Nat.le_succ _) _)⟩

set_option maxHeartbeats 4000000 in
theorem within_none (k0 n0 : Int) (b off n c : Nat) (xs : List Int) (hl : n = xs.length) (hn : 1 < n) (h1 : ¬ (xs[1]?.getD 0 = 5 ∧ xs.length = 3)) (h2 : ¬ (xs[1]?.getD 0 = 2 ∧ (xs.length = 5 ∨ xs.length = 6))) (w : World) (hR : RI w w.heap.size (some ⟨b, off, none⟩) xs) :
    Calls Tryd.prog 34 #[.agg #[.int .i64 k0, .int .i64 n0], .slice (some ⟨b, off, none⟩) n c] w fun e w' => e = .returned (withinV k0 n0 xs) ∧ Below w.heap.size w w' := by
  rw [show withinV k0 n0 xs = .agg #[.int .i64 k0, .int .i64 n0] from by
    unfold withinV
    rw [if_neg h1, if_neg h2]]
  obtain ⟨b', off', e, hlt, hcs⟩ := hR (by rintro rfl; simp at hl; omega)
  injection e with e
  injection e with e1 e2 e3
  subst e1; subst e2
  have hy := hcs 1 (by omega)
  rw [← hl] at h1 h2
  generalize xs[1]?.getD 0 = y at *
  have hni : (1 : Int) < n := by omega
  clear hcs hR hl
  by_cases y5 : y = 5
  · subst y5
    have g : ((n : Int) == 3) = false := by simp; omega
    clear h1 h2 hn
    go_enter Tryd.func34, Tryd.ntmps34
    go_wp2
    exact bodyPost_ret (v := .agg #[.int .i64 k0, .int .i64 n0]) (by simp [results, Tryd.results34, go_sem]) rfl ⟨rfl, ((Below.refl _ _).alloc (Nat.le_refl _) _).alloc (by simp) _⟩
  have b5 : (y == 5) = false := by simpa using y5
  by_cases y2 : y = 2
  · subst y2
    have g5 : ((n : Int) == 5) = false := by simp; omega
    have g6 : ((n : Int) == 6) = false := by simp; omega
    clear h1 h2 hn y5
    go_enter Tryd.func34, Tryd.ntmps34
    go_wp2
    exact bodyPost_ret (v := .agg #[.int .i64 k0, .int .i64 n0]) (by simp [results, Tryd.results34, go_sem]) rfl ⟨rfl, ((Below.refl _ _).alloc (Nat.le_refl _) _).alloc (by simp) _⟩
  have b2 : (y == 2) = false := by simpa using y2
  clear h1 h2 hn y5 y2
  go_enter Tryd.func34, Tryd.ntmps34
  go_wp2
  exact bodyPost_ret (v := .agg #[.int .i64 k0, .int .i64 n0]) (by simp [results, Tryd.results34, go_sem]) rfl ⟨rfl, ((Below.refl _ _).alloc (Nat.le_refl _) _).alloc (by simp) _⟩

end Go.Proofs.YtlndmfbopopmmaaDoor
