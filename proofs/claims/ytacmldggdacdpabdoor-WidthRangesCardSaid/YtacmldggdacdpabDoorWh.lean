/- The walks of the widths' laws: awake, WidthOf, WidthText. -/
import Derived.Test.YtacmldggdacdpabDoorWg
namespace Go.Proofs.YtacmldggdacdpabDoor
open Go.RowKit Go.Shelf

def awL : List Int := [97, 769, 12354]
theorem awText : textZ awL = 3 := by decide
theorem awPairs : pairs awL = [(0, 2), (2, 3)] := by decide
theorem awFit {N : Nat} (h : FitIs 2 awL N) : N = 2 := by
  obtain ⟨q, hq, rfl, hu, hr⟩ := h
  rw [awPairs] at hq hr
  match q, hq, hu, hr with
  | [], _, _, hr =>
    rcases hr with hr | ⟨x, hx, hlt⟩
    · cases hr
    · obtain ⟨t, ht⟩ := hx
      obtain rfl : x = (0, 2) := by simp at ht; exact ht.1
      exact absurd hlt (by decide)
  | [x], hq, _, _ =>
    obtain ⟨t, ht⟩ := hq
    obtain rfl : x = (0, 2) := by simp at ht; exact ht.1
    rfl
  | [x, y], hq, hu, _ =>
    obtain ⟨t, ht⟩ := hq
    obtain ⟨rfl, rfl, _⟩ : x = (0, 2) ∧ y = (2, 3) ∧ t = [] := by simpa using ht
    rcases hu with hu | hu
    · exact absurd hu (by decide)
    · cases hu
  | x :: y :: z :: r, hq, _, _ =>
    have := hq.length_le
    simp at this
theorem aw_RS (w : World) : RS (w.alloc (.cells #[.int .i32 97, .int .i32 769, .int .i32 12354] 21)) (w.alloc (.cells #[.int .i32 97, .int .i32 769, .int .i32 12354] 21)).heap.size (some ⟨w.heap.size, 0, none⟩) awL := fun _ =>
  ⟨w.heap.size, 0, rfl, by simp, fun k hk => by
    refine (cell_of_row _ _ _ _ _ _ (heap_alloc_new w _)).trans ?_
    match k, hk with
    | 0, _ => rfl
    | 1, _ => rfl
    | 2, _ => rfl⟩

set_option maxHeartbeats 1000000 in
theorem awake_any (w : World) (hT : WT w) : Calls Tryd.prog 7 #[] w fun e w' => e = .returned (.bool true) ∧ Below w.heap.size w w' := by
  have H1 : Hid (∀ W, Below w.heap.size w W → Calls Tryd.prog 9 #[.slice (some ⟨W.heap.size, 0, none⟩) 3 3] (W.alloc (.cells #[.int .i32 97, .int .i32 769, .int .i32 12354] 21)) fun e w' => e = .returned (.int .i64 3) ∧ Below w.heap.size w w') := Lib.hid fun W hW => by
    have ha : Below W.heap.size W (W.alloc (.cells #[.int .i32 97, .int .i32 769, .int .i32 12354] 21)) := (Below.refl _ _).alloc (Nat.le_refl _) _
    refine (text_any _ awL 3 3 rfl (by omega) _ ((hT.below hW).below ha) (aw_RS W)).mono ?_
    rintro e w' ⟨rfl, hb⟩
    exact ⟨by rw [awText], (hW.trans (ha.mono hW.size)).trans (hb.mono (Nat.le_trans hW.size ha.size))⟩
  have H2 : Hid (∀ W, Below w.heap.size w W → Calls Tryd.prog 10 #[.int .i64 2, .slice (some ⟨W.heap.size, 0, none⟩) 3 3] (W.alloc (.cells #[.int .i32 97, .int .i32 769, .int .i32 12354] 21)) fun e w' => e = .returned (.int .i64 2) ∧ Below w.heap.size w w') := Lib.hid fun W hW => by
    have ha : Below W.heap.size W (W.alloc (.cells #[.int .i32 97, .int .i32 769, .int .i32 12354] 21)) := (Below.refl _ _).alloc (Nat.le_refl _) _
    refine (fit_any 2 _ awL 3 3 rfl (by omega) (by omega) (by omega) _ ((hT.below hW).below ha) (aw_RS W)).mono ?_
    rintro e w' ⟨N, rfl, hF, hb⟩
    exact ⟨by rw [awFit hF]; rfl, (hW.trans (ha.mono hW.size)).trans (hb.mono (Nat.le_trans hW.size ha.size))⟩
  have H3 : Hid (∀ W, Below w.heap.size w W → Calls Tryd.prog 11 #[.slice (some ⟨W.heap.size, 0, none⟩) 3 3] (W.alloc (.cells #[.int .i32 97, .int .i32 769, .int .i32 12354] 21)) fun e w' => (∃ g c, e = .returned (.slice (some ⟨g, 0, none⟩) 2 c)) ∧ Below w.heap.size w w') := Lib.hid fun W hW => by
    have ha : Below W.heap.size W (W.alloc (.cells #[.int .i32 97, .int .i32 769, .int .i32 12354] 21)) := (Below.refl _ _).alloc (Nat.le_refl _) _
    refine (clustersFn_any _ awL 3 3 rfl (by omega) (by omega) (by omega) _ ((hT.below hW).below ha) (aw_RS W)).mono ?_
    rintro e w' ⟨v, vs, rfl, ho, _, hb⟩
    rw [awPairs] at ho
    obtain ⟨g, c, rfl⟩ := ownsRow_succ' (by decide) ho
    exact ⟨⟨g, c, rfl⟩, (hW.trans (ha.mono hW.size)).trans (hb.mono (Nat.le_trans hW.size ha.size))⟩
  clear hT
  go_enter Tryd.func7, Tryd.ntmps7
  go_wp2_with (first | (go_at_call 9; refine (H1.out _ (Below.refl _ _)).mono ?_; rintro e w1 ⟨rfl, hb1⟩) | (go_at_call 10; refine (H2.out _ hb1).mono ?_; rintro e w2 ⟨rfl, hb2⟩) | (go_at_call 11; refine (H3.out _ hb2).mono ?_; rintro e w3 ⟨⟨g, c, rfl⟩, hb3⟩))
  go_ret
  exact ⟨rfl, hb3⟩

end Go.Proofs.YtacmldggdacdpabDoor
