/- The walks of State.Map, New, Take, Lock. -/
import Derived.Test.YtjdpkjdnamfloaaDoorCa
import Derived.Deep.RegionWith
namespace Go.Proofs.YtjdpkjdnamfloaaDoor
open Go.RowKit

set_option maxHeartbeats 1000000 in
theorem map_any (a b c d u o r : Int) (w : World) (hT : CT w) :
    Calls Tryd.prog 8 #[.agg #[.int .i64 a, .int .i64 b, .int .i64 c, .int .i64 d, .int .i64 u, .int .i64 o], .int .i32 r] w fun e w' => e = .returned (.tuple #[.int .i32 (printZ (setZ a b c d (meantZ u o)) r), .agg #[.int .i64 a, .int .i64 b, .int .i64 c, .int .i64 d, .int .i64 u, .int .i64 0]]) ∧ Below w.heap.size w w' := by
  have hm := meant_any a b c d u o
  have hbd := meantZ_bd u o
  have HT : Hid (∀ W, Below w.heap.size w W → CT W) := Lib.hid fun W hW => hT.below hW
  clear hT
  generalize meantZ u o = k at *
  rcases (by omega : k = 0 ∨ k = 1 ∨ k = 2 ∨ k = 3) with rfl | rfl | rfl | rfl
  · rw [show setZ a b c d 0 = a from rfl]
    clear hbd
    go_enter Tryd.func8, Tryd.ntmps8
    go_wp2_with (first | (go_at_call 24; refine (hm _).mono ?_; clear hm; rintro e w1 ⟨rfl, hb1⟩; obtain ⟨hc, hf⟩ := bcell hb1; have hz := sz2 hb1; have HB := Lib.hid (bel2 (Below.refl _ w) hb1)) | (go_at_call 23; refine (printed_any _ _ _ (HT.out _ HB.out)).mono ?_; rintro e w2 ⟨rfl, rfl⟩))
    have hv : w1.cell? ⟨w.heap.size, 5, none⟩ = some (.int .i64 o) := (hc _ _ (by simp <;> omega)).trans (by simp)
    have c5 := World.cell?_setCell_same w1 ⟨w.heap.size, 5, none⟩ (.int .i64 0) hv
    have v0 : w1.cell? ⟨w.heap.size + 1, 0, none⟩ = some (.int .i64 0) := (hc _ _ (by simp <;> omega)).trans (by simp)
    have v1 : w1.cell? ⟨w.heap.size + 1, 1, none⟩ = some (.int .i64 0) := (hc _ _ (by simp <;> omega)).trans (by simp)
    have v2 : w1.cell? ⟨w.heap.size + 1, 2, none⟩ = some (.int .i64 0) := (hc _ _ (by simp <;> omega)).trans (by simp)
    have v3 : w1.cell? ⟨w.heap.size + 1, 3, none⟩ = some (.int .i64 0) := (hc _ _ (by simp <;> omega)).trans (by simp)
    have v4 : w1.cell? ⟨w.heap.size + 1, 4, none⟩ = some (.int .i64 0) := (hc _ _ (by simp <;> omega)).trans (by simp)
    have v5 : w1.cell? ⟨w.heap.size + 1, 5, none⟩ = some (.int .i64 0) := (hc _ _ (by simp <;> omega)).trans (by simp)
    go_region
    all_goals
      go_wp2
      refine bodyPost_ret (v := .tuple #[.int .i32 (printZ a r), .agg #[.int .i64 a, .int .i64 b, .int .i64 c, .int .i64 d, .int .i64 u, .int .i64 0]]) (by simp [results, Tryd.results8, go_sem, v0, v1, v2, v3, v4, v5]) rfl ⟨rfl, ?_⟩
      exact (below_row6 (HB.out.setCell (p := ⟨w.heap.size, 5, none⟩) (Nat.le_refl _) _) (Nat.le_succ _) _ _ _ _ _ _).drew
  · rw [show setZ a b c d 1 = b from rfl]
    clear hbd
    go_enter Tryd.func8, Tryd.ntmps8
    go_wp2_with (first | (go_at_call 24; refine (hm _).mono ?_; clear hm; rintro e w1 ⟨rfl, hb1⟩; obtain ⟨hc, hf⟩ := bcell hb1; have hz := sz2 hb1; have HB := Lib.hid (bel2 (Below.refl _ w) hb1)) | (go_at_call 23; refine (printed_any _ _ _ (HT.out _ HB.out)).mono ?_; rintro e w2 ⟨rfl, rfl⟩))
    have hv : w1.cell? ⟨w.heap.size, 5, none⟩ = some (.int .i64 o) := (hc _ _ (by simp <;> omega)).trans (by simp)
    have c5 := World.cell?_setCell_same w1 ⟨w.heap.size, 5, none⟩ (.int .i64 0) hv
    have v0 : w1.cell? ⟨w.heap.size + 1, 0, none⟩ = some (.int .i64 0) := (hc _ _ (by simp <;> omega)).trans (by simp)
    have v1 : w1.cell? ⟨w.heap.size + 1, 1, none⟩ = some (.int .i64 0) := (hc _ _ (by simp <;> omega)).trans (by simp)
    have v2 : w1.cell? ⟨w.heap.size + 1, 2, none⟩ = some (.int .i64 0) := (hc _ _ (by simp <;> omega)).trans (by simp)
    have v3 : w1.cell? ⟨w.heap.size + 1, 3, none⟩ = some (.int .i64 0) := (hc _ _ (by simp <;> omega)).trans (by simp)
    have v4 : w1.cell? ⟨w.heap.size + 1, 4, none⟩ = some (.int .i64 0) := (hc _ _ (by simp <;> omega)).trans (by simp)
    have v5 : w1.cell? ⟨w.heap.size + 1, 5, none⟩ = some (.int .i64 0) := (hc _ _ (by simp <;> omega)).trans (by simp)
    go_region
    all_goals
      go_wp2
      refine bodyPost_ret (v := .tuple #[.int .i32 (printZ b r), .agg #[.int .i64 a, .int .i64 b, .int .i64 c, .int .i64 d, .int .i64 u, .int .i64 0]]) (by simp [results, Tryd.results8, go_sem, v0, v1, v2, v3, v4, v5]) rfl ⟨rfl, ?_⟩
      exact (below_row6 (HB.out.setCell (p := ⟨w.heap.size, 5, none⟩) (Nat.le_refl _) _) (Nat.le_succ _) _ _ _ _ _ _).drew
  · rw [show setZ a b c d 2 = c from rfl]
    clear hbd
    go_enter Tryd.func8, Tryd.ntmps8
    go_wp2_with (first | (go_at_call 24; refine (hm _).mono ?_; clear hm; rintro e w1 ⟨rfl, hb1⟩; obtain ⟨hc, hf⟩ := bcell hb1; have hz := sz2 hb1; have HB := Lib.hid (bel2 (Below.refl _ w) hb1)) | (go_at_call 23; refine (printed_any _ _ _ (HT.out _ HB.out)).mono ?_; rintro e w2 ⟨rfl, rfl⟩))
    have hv : w1.cell? ⟨w.heap.size, 5, none⟩ = some (.int .i64 o) := (hc _ _ (by simp <;> omega)).trans (by simp)
    have c5 := World.cell?_setCell_same w1 ⟨w.heap.size, 5, none⟩ (.int .i64 0) hv
    have v0 : w1.cell? ⟨w.heap.size + 1, 0, none⟩ = some (.int .i64 0) := (hc _ _ (by simp <;> omega)).trans (by simp)
    have v1 : w1.cell? ⟨w.heap.size + 1, 1, none⟩ = some (.int .i64 0) := (hc _ _ (by simp <;> omega)).trans (by simp)
    have v2 : w1.cell? ⟨w.heap.size + 1, 2, none⟩ = some (.int .i64 0) := (hc _ _ (by simp <;> omega)).trans (by simp)
    have v3 : w1.cell? ⟨w.heap.size + 1, 3, none⟩ = some (.int .i64 0) := (hc _ _ (by simp <;> omega)).trans (by simp)
    have v4 : w1.cell? ⟨w.heap.size + 1, 4, none⟩ = some (.int .i64 0) := (hc _ _ (by simp <;> omega)).trans (by simp)
    have v5 : w1.cell? ⟨w.heap.size + 1, 5, none⟩ = some (.int .i64 0) := (hc _ _ (by simp <;> omega)).trans (by simp)
    go_region
    all_goals
      go_wp2
      refine bodyPost_ret (v := .tuple #[.int .i32 (printZ c r), .agg #[.int .i64 a, .int .i64 b, .int .i64 c, .int .i64 d, .int .i64 u, .int .i64 0]]) (by simp [results, Tryd.results8, go_sem, v0, v1, v2, v3, v4, v5]) rfl ⟨rfl, ?_⟩
      exact (below_row6 (HB.out.setCell (p := ⟨w.heap.size, 5, none⟩) (Nat.le_refl _) _) (Nat.le_succ _) _ _ _ _ _ _).drew
  · rw [show setZ a b c d 3 = d from rfl]
    clear hbd
    go_enter Tryd.func8, Tryd.ntmps8
    go_wp2_with (first | (go_at_call 24; refine (hm _).mono ?_; clear hm; rintro e w1 ⟨rfl, hb1⟩; obtain ⟨hc, hf⟩ := bcell hb1; have hz := sz2 hb1; have HB := Lib.hid (bel2 (Below.refl _ w) hb1)) | (go_at_call 23; refine (printed_any _ _ _ (HT.out _ HB.out)).mono ?_; rintro e w2 ⟨rfl, rfl⟩))
    have hv : w1.cell? ⟨w.heap.size, 5, none⟩ = some (.int .i64 o) := (hc _ _ (by simp <;> omega)).trans (by simp)
    have c5 := World.cell?_setCell_same w1 ⟨w.heap.size, 5, none⟩ (.int .i64 0) hv
    have v0 : w1.cell? ⟨w.heap.size + 1, 0, none⟩ = some (.int .i64 0) := (hc _ _ (by simp <;> omega)).trans (by simp)
    have v1 : w1.cell? ⟨w.heap.size + 1, 1, none⟩ = some (.int .i64 0) := (hc _ _ (by simp <;> omega)).trans (by simp)
    have v2 : w1.cell? ⟨w.heap.size + 1, 2, none⟩ = some (.int .i64 0) := (hc _ _ (by simp <;> omega)).trans (by simp)
    have v3 : w1.cell? ⟨w.heap.size + 1, 3, none⟩ = some (.int .i64 0) := (hc _ _ (by simp <;> omega)).trans (by simp)
    have v4 : w1.cell? ⟨w.heap.size + 1, 4, none⟩ = some (.int .i64 0) := (hc _ _ (by simp <;> omega)).trans (by simp)
    have v5 : w1.cell? ⟨w.heap.size + 1, 5, none⟩ = some (.int .i64 0) := (hc _ _ (by simp <;> omega)).trans (by simp)
    go_region
    all_goals
      go_wp2
      refine bodyPost_ret (v := .tuple #[.int .i32 (printZ d r), .agg #[.int .i64 a, .int .i64 b, .int .i64 c, .int .i64 d, .int .i64 u, .int .i64 0]]) (by simp [results, Tryd.results8, go_sem, v0, v1, v2, v3, v4, v5]) rfl ⟨rfl, ?_⟩
      exact (below_row6 (HB.out.setCell (p := ⟨w.heap.size, 5, none⟩) (Nat.le_refl _) _) (Nat.le_succ _) _ _ _ _ _ _).drew

set_option maxHeartbeats 1000000 in
theorem new_any (w : World) :
    Calls Tryd.prog 18 #[] w fun e w' => e = .returned (.agg #[.int .i64 66, .int .i64 66, .int .i64 66, .int .i64 66, .int .i64 0, .int .i64 0]) ∧ Below w.heap.size w w' := by
  go_enter Tryd.func18, Tryd.ntmps18
  go_wp2
  exact bodyPost_ret (v := .agg #[.int .i64 66, .int .i64 66, .int .i64 66, .int .i64 66, .int .i64 0, .int .i64 0]) (by simp [results, Tryd.results18, go_sem]) rfl ⟨rfl, (Below.refl _ _).alloc (Nat.le_refl _) _⟩

def takeZ (u x : Int) : Int := if x = 14 then 1 else if x = 15 then 0 else u
set_option maxHeartbeats 1000000 in
theorem take_any (a b c d u o x : Int) (w : World) :
    Calls Tryd.prog 14 #[.agg #[.int .i64 a, .int .i64 b, .int .i64 c, .int .i64 d, .int .i64 u, .int .i64 o], .int .u8 x] w fun e w' => e = .returned (.agg #[.int .i64 a, .int .i64 b, .int .i64 c, .int .i64 d, .int .i64 (takeZ u x), .int .i64 o]) ∧ Below w.heap.size w w' := by
  by_cases h1 : x = 14
  · subst h1
    go_enter Tryd.func14, Tryd.ntmps14
    go_wp2
    exact bodyPost_ret (v := .agg #[.int .i64 a, .int .i64 b, .int .i64 c, .int .i64 d, .int .i64 1, .int .i64 o]) (by simp [results, Tryd.results14, go_sem]) rfl ⟨rfl, ((Below.refl _ _).alloc (Nat.le_refl _) _).alloc (by simp) _⟩
  by_cases h2 : x = 15
  · subst h2
    go_enter Tryd.func14, Tryd.ntmps14
    go_wp2
    exact bodyPost_ret (v := .agg #[.int .i64 a, .int .i64 b, .int .i64 c, .int .i64 d, .int .i64 0, .int .i64 o]) (by simp [results, Tryd.results14, go_sem]) rfl ⟨rfl, ((Below.refl _ _).alloc (Nat.le_refl _) _).alloc (by simp) _⟩
  rw [show takeZ u x = u by unfold takeZ; rw [if_neg h1, if_neg h2]]
  have b1 : (x == 14) = false := by simpa using h1
  have b2 : (x == 15) = false := by simpa using h2
  clear h1 h2
  go_enter Tryd.func14, Tryd.ntmps14
  go_wp2
  exact bodyPost_ret (v := .agg #[.int .i64 a, .int .i64 b, .int .i64 c, .int .i64 d, .int .i64 u, .int .i64 o]) (by simp [results, Tryd.results14, go_sem]) rfl ⟨rfl, ((Below.refl _ _).alloc (Nat.le_refl _) _).alloc (by simp) _⟩

def lockU (u x : Int) : Int := if x = 110 then 2 else if x = 111 then 3 else u
def lockO (o x : Int) : Int := if x = 78 then 2 else if x = 79 then 3 else o
set_option maxHeartbeats 1000000 in
theorem lock_any (a b c d u o x : Int) (w : World) :
    Calls Tryd.prog 16 #[.agg #[.int .i64 a, .int .i64 b, .int .i64 c, .int .i64 d, .int .i64 u, .int .i64 o], .int .u8 x] w fun e w' => e = .returned (.agg #[.int .i64 a, .int .i64 b, .int .i64 c, .int .i64 d, .int .i64 (lockU u x), .int .i64 (lockO o x)]) ∧ Below w.heap.size w w' := by
  by_cases h110 : x = 110
  · subst h110
    go_enter Tryd.func16, Tryd.ntmps16
    go_wp2
    exact bodyPost_ret (v := .agg #[.int .i64 a, .int .i64 b, .int .i64 c, .int .i64 d, .int .i64 2, .int .i64 o]) (by simp [results, Tryd.results16, go_sem]) rfl ⟨rfl, ((Below.refl _ _).alloc (Nat.le_refl _) _).alloc (by simp) _⟩
  by_cases h111 : x = 111
  · subst h111
    go_enter Tryd.func16, Tryd.ntmps16
    go_wp2
    exact bodyPost_ret (v := .agg #[.int .i64 a, .int .i64 b, .int .i64 c, .int .i64 d, .int .i64 3, .int .i64 o]) (by simp [results, Tryd.results16, go_sem]) rfl ⟨rfl, ((Below.refl _ _).alloc (Nat.le_refl _) _).alloc (by simp) _⟩
  by_cases h78 : x = 78
  · subst h78
    go_enter Tryd.func16, Tryd.ntmps16
    go_wp2
    exact bodyPost_ret (v := .agg #[.int .i64 a, .int .i64 b, .int .i64 c, .int .i64 d, .int .i64 u, .int .i64 2]) (by simp [results, Tryd.results16, go_sem]) rfl ⟨rfl, ((Below.refl _ _).alloc (Nat.le_refl _) _).alloc (by simp) _⟩
  by_cases h79 : x = 79
  · subst h79
    go_enter Tryd.func16, Tryd.ntmps16
    go_wp2
    exact bodyPost_ret (v := .agg #[.int .i64 a, .int .i64 b, .int .i64 c, .int .i64 d, .int .i64 u, .int .i64 3]) (by simp [results, Tryd.results16, go_sem]) rfl ⟨rfl, ((Below.refl _ _).alloc (Nat.le_refl _) _).alloc (by simp) _⟩
  rw [show lockU u x = u by unfold lockU; rw [if_neg h110, if_neg h111], show lockO o x = o by unfold lockO; rw [if_neg h78, if_neg h79]]
  have b110 : (x == 110) = false := by simpa using h110
  have b111 : (x == 111) = false := by simpa using h111
  have b78 : (x == 78) = false := by simpa using h78
  have b79 : (x == 79) = false := by simpa using h79
  clear h110 h111 h78 h79
  go_enter Tryd.func16, Tryd.ntmps16
  go_wp2
  exact bodyPost_ret (v := .agg #[.int .i64 a, .int .i64 b, .int .i64 c, .int .i64 d, .int .i64 u, .int .i64 o]) (by simp [results, Tryd.results16, go_sem]) rfl ⟨rfl, ((Below.refl _ _).alloc (Nat.le_refl _) _).alloc (by simp) _⟩

end Go.Proofs.YtjdpkjdnamfloaaDoor
