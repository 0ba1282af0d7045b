/- The walk of flagNumber. -/
import Derived.Test.YtlndmfbopopmmaaDoorAe
namespace Go.Proofs.YtlndmfbopopmmaaDoor
open Go.RowKit

/-- By which number a group of one value turns flags. -/
def flag1 (v : Int) : Int := if v = 6 then 5 else v
/-- .. of more values. -/
def flag2 (v y : Int) : Int := if v = 6 then 5 else if v = 4 then (if y = 0 then 24 else if y = 2 then 21 else 4) else v
set_option maxHeartbeats 2000000 in
theorem flagNumber_one (b off c : Nat) (x : Int) (w : World) (hc : w.cell? ⟨b, off, none⟩ = some (.int .i64 x)) : Calls Tryd.prog 26 #[.slice (some ⟨b, off, none⟩) 1 c] w fun e w' => e = .returned (.int .i64 (flag1 (most0Z x))) ∧ Below w.heap.size w w' := by
  have hf := first_some b off 1 c x (by decide) w hc
  generalize most0Z x = v at *
  clear hc
  unfold flag1
  by_cases h6 : v = 6
  · subst h6
    rw [if_pos rfl]
    go_enter Tryd.func26, Tryd.ntmps26
    go_wp2_with (go_at_call 22; refine hf.mono ?_; clear hf; rintro e w1 ⟨rfl, hb1⟩)
    go_ret
    exact ⟨by simp_all, hb1⟩
  rw [if_neg h6]
  have b6 : (v == 6) = false := by simpa using h6
  clear h6
  by_cases h4 : v = 4
  · subst h4
    go_enter Tryd.func26, Tryd.ntmps26
    go_wp2_with (go_at_call 22; refine hf.mono ?_; clear hf; rintro e w1 ⟨rfl, hb1⟩)
    go_ret
    exact ⟨by simp_all, hb1⟩
  have b4 : (v == 4) = false := by simpa using h4
  clear h4
  go_enter Tryd.func26, Tryd.ntmps26
  go_wp2_with (go_at_call 22; refine hf.mono ?_; clear hf; rintro e w1 ⟨rfl, hb1⟩)
  go_ret
  exact ⟨by simp_all, hb1⟩

set_option maxHeartbeats 2000000 in
theorem flagNumber_two (b off n c : Nat) (x y : Int) (hn : 1 < n) (w : World) (hc : w.cell? ⟨b, off, none⟩ = some (.int .i64 x)) (hcy : w.cell? ⟨b, off + 1, none⟩ = some (.int .i64 y)) : Calls Tryd.prog 26 #[.slice (some ⟨b, off, none⟩) n c] w fun e w' => e = .returned (.int .i64 (flag2 (most0Z x) y)) ∧ Below w.heap.size w w' := by
  have hlt : b < w.heap.size := by
    rcases Nat.lt_or_ge b w.heap.size with hl | hl
    · exact hl
    · simp [World.cell?, Array.getElem?_eq_none hl] at hc
  have hf := first_some b off n c x (by omega) w hc
  generalize most0Z x = v at *
  clear hc
  have hni : (1 : Int) < n := by omega
  unfold flag2
  by_cases h6 : v = 6
  · subst h6
    rw [if_pos rfl]
    go_enter Tryd.func26, Tryd.ntmps26
    go_wp2_with (go_at_call 22; refine hf.mono ?_; clear hf; rintro e w1 ⟨rfl, hb1⟩; have hc1 := hb1.cell (p := ⟨b, off + 1, none⟩) hlt)
    go_ret
    exact ⟨by simp_all, hb1⟩
  rw [if_neg h6]
  have b6 : (v == 6) = false := by simpa using h6
  clear h6
  by_cases h4 : v = 4
  · subst h4
    rw [if_pos rfl]
    by_cases y0 : y = 0
    · subst y0
      rw [if_pos rfl]
      go_enter Tryd.func26, Tryd.ntmps26
      go_wp2_with (go_at_call 22; refine hf.mono ?_; clear hf; rintro e w1 ⟨rfl, hb1⟩; have hc1 := hb1.cell (p := ⟨b, off + 1, none⟩) hlt)
      go_ret
      exact ⟨by simp_all, hb1⟩
    rw [if_neg y0]
    have c0 : (y == 0) = false := by simpa using y0
    clear y0
    by_cases y2 : y = 2
    · subst y2
      rw [if_pos rfl]
      go_enter Tryd.func26, Tryd.ntmps26
      go_wp2_with (go_at_call 22; refine hf.mono ?_; clear hf; rintro e w1 ⟨rfl, hb1⟩; have hc1 := hb1.cell (p := ⟨b, off + 1, none⟩) hlt)
      go_ret
      exact ⟨by simp_all, hb1⟩
    rw [if_neg y2]
    have c2 : (y == 2) = false := by simpa using y2
    clear y2
    go_enter Tryd.func26, Tryd.ntmps26
    go_wp2_with (go_at_call 22; refine hf.mono ?_; clear hf; rintro e w1 ⟨rfl, hb1⟩; have hc1 := hb1.cell (p := ⟨b, off + 1, none⟩) hlt)
    go_ret
    exact ⟨by simp_all, hb1⟩
  rw [if_neg h4]
  have b4 : (v == 4) = false := by simpa using h4
  clear h4
  go_enter Tryd.func26, Tryd.ntmps26
  go_wp2_with (go_at_call 22; refine hf.mono ?_; clear hf; rintro e w1 ⟨rfl, hb1⟩; have hc1 := hb1.cell (p := ⟨b, off + 1, none⟩) hlt)
  go_ret
  exact ⟨by simp_all, hb1⟩

end Go.Proofs.YtlndmfbopopmmaaDoor
