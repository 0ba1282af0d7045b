/- The walks of the document's color and Has. -/
import Derived.Test.YtlolbfbkoimjkaaDoorAa
namespace Go.Proofs.YtlolbfbkoimjkaaDoor
open Go.RowKit

set_option maxHeartbeats 4000000 in
set_option maxRecDepth 100000 in
theorem color_any (k n : Int) (w : World) : Calls Tryd.prog 39 #[.agg #[.int .i64 k, .int .i64 n]] w fun e w' => e = .returned (.bool (colorB k n)) ∧ Below w.heap.size w w' := by
  by_cases h0 : k = 0
  · subst h0
    by_cases hn : n = 0
    · subst hn
      rw [show colorB 0 0 = true from rfl]
      go_enter Tryd.func39, Tryd.ntmps39
      go_wp2
      go_ret
      exact ⟨by simp_all, belA (Below.refl _ _) _⟩
    · rw [show colorB 0 n = false from by unfold colorB; simp [hn]]
      have b0 : (n == 0) = false := by simpa using hn
      clear hn
      go_enter Tryd.func39, Tryd.ntmps39
      go_wp2
      go_ret
      exact ⟨by simp_all, belA (Below.refl _ _) _⟩
  by_cases h1 : k = 1
  · subst h1
    rw [show colorB 1 n = decide (0 ≤ n ∧ n ≤ 255) from rfl]
    clear h0
    by_cases h : 0 ≤ n
    · have g0 : decide (n ≥ 0) = true := decide_eq_true h
      by_cases h' : n ≤ 255
      · rw [decide_eq_true ⟨h, h'⟩]
        have g1 : decide (n < 256) = true := decide_eq_true (by omega)
        have g2 : n < 256 := by omega
        clear h'
        go_enter Tryd.func39, Tryd.ntmps39
        go_wp2
        go_ret
        exact ⟨by simp_all, belA (Below.refl _ _) _⟩
      · rw [decide_eq_false fun hh => h' hh.2]
        have g1 : decide (n < 256) = false := decide_eq_false (by omega)
        clear h'
        go_enter Tryd.func39, Tryd.ntmps39
        go_wp2
        go_ret
        exact ⟨by simp_all, belA (Below.refl _ _) _⟩
    · rw [decide_eq_false fun hh => h hh.1]
      have g0 : decide (n ≥ 0) = false := decide_eq_false h
      have g3 : decide (0 ≤ n) = false := decide_eq_false h
      clear h
      go_enter Tryd.func39, Tryd.ntmps39
      go_wp2
      go_ret
      exact ⟨by simp_all, belA (Below.refl _ _) _⟩
  by_cases h2 : k = 2
  · subst h2
    rw [show colorB 2 n = decide (0 ≤ n ∧ n ≤ 16777215) from rfl]
    clear h0 h1
    by_cases h : 0 ≤ n
    · have g0 : decide (n ≥ 0) = true := decide_eq_true h
      by_cases h' : n ≤ 16777215
      · rw [decide_eq_true ⟨h, h'⟩]
        have g1 : decide (n < 16777216) = true := decide_eq_true (by omega)
        have g2 : n < 16777216 := by omega
        clear h'
        go_enter Tryd.func39, Tryd.ntmps39
        go_wp2
        go_ret
        exact ⟨by simp_all, belA (Below.refl _ _) _⟩
      · rw [decide_eq_false fun hh => h' hh.2]
        have g1 : decide (n < 16777216) = false := decide_eq_false (by omega)
        clear h'
        go_enter Tryd.func39, Tryd.ntmps39
        go_wp2
        go_ret
        exact ⟨by simp_all, belA (Below.refl _ _) _⟩
    · rw [decide_eq_false fun hh => h hh.1]
      have g0 : decide (n ≥ 0) = false := decide_eq_false h
      have g3 : decide (0 ≤ n) = false := decide_eq_false h
      clear h
      go_enter Tryd.func39, Tryd.ntmps39
      go_wp2
      go_ret
      exact ⟨by simp_all, belA (Below.refl _ _) _⟩
  rw [show colorB k n = false from by unfold colorB; simp [h0, h1, h2]]
  have b0 : (k == 0) = false := by simpa using h0
  have b1 : (k == 1) = false := by simpa using h1
  have b2 : (k == 2) = false := by simpa using h2
  clear h0 h1 h2
  go_enter Tryd.func39, Tryd.ntmps39
  go_wp2
  go_ret
  exact ⟨by simp_all, belA (Below.refl _ _) _⟩

/-- Whether a number has a flag. -/
def hasB (n f : Int) : Bool := if n < 0 then false else n / f % 2 == 1
set_option maxHeartbeats 1000000 in
set_option maxRecDepth 100000 in
theorem has_any (n f : Int) (h63 : n ≤ 9223372036854775807) (hf : f = 8 ∨ f = 256) (w : World) : Calls Tryd.prog 40 #[.int .i64 n, .int .i64 f] w fun e w' => e = .returned (.bool (hasB n f)) ∧ Below w.heap.size w w' := by
  by_cases h : n < 0
  · rw [show hasB n f = false from if_pos h]
    have hd : decide (n < 0) = true := decide_eq_true h
    rcases hf with rfl | rfl
    · go_enter Tryd.func40, Tryd.ntmps40
      go_wp2
      go_ret
      exact ⟨by simp_all, Below.refl _ _⟩
    · go_enter Tryd.func40, Tryd.ntmps40
      go_wp2
      go_ret
      exact ⟨by simp_all, Below.refl _ _⟩
  · rw [show hasB n f = (n / f % 2 == 1) from if_neg h]
    have hd : decide (n < 0) = false := decide_eq_false h
    have h0 : 0 ≤ n := by omega
    have e8 : n.tdiv 8 = n / 8 := Int.tdiv_eq_ediv_of_nonneg h0
    have e256 : n.tdiv 256 = n / 256 := Int.tdiv_eq_ediv_of_nonneg h0
    have m8 : (n / 8).tmod 2 = n / 8 % 2 := Int.tmod_eq_emod_of_nonneg (by omega)
    have m256 : (n / 256).tmod 2 = n / 256 % 2 := Int.tmod_eq_emod_of_nonneg (by omega)
    have w8 : wrap64 (n / 8) = n / 8 := by
      have := IntWalk.wrap64_in (n / 8) (by omega)
      exact this
    have w256 : wrap64 (n / 256) = n / 256 := by
      have := IntWalk.wrap64_in (n / 256) (by omega)
      exact this
    rcases hf with rfl | rfl
    · go_enter Tryd.func40, Tryd.ntmps40
      go_wp2
      go_ret
      exact ⟨by simp_all, Below.refl _ _⟩
    · go_enter Tryd.func40, Tryd.ntmps40
      go_wp2
      go_ret
      exact ⟨by simp_all, Below.refl _ _⟩

end Go.Proofs.YtlolbfbkoimjkaaDoor
