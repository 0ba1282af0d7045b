/- The walks of the laws UtfSizes, UtfPuts. -/
import Derived.Test.YtdhmpnjodcjjpaaDoorUy
namespace Go.Proofs.YtdhmpnjodcjjpaaDoor
open Go.RowKit Go.Shelf

def wantN (c : Nat) : Nat := if isB [c] = true then 1 else if fullB [c] = false then (if 240 ≤ c then 4 else if 224 ≤ c then 3 else 2) else 0
set_option maxRecDepth 100000 in
theorem size_want : ∀ c, c < 256 → sizeN c = wantN c := by decide +kernel

theorem awake_hid {w : World} (h4 : max 0 1 + 1 ≤ w.heap.size) (hT : UT w) : Hid (∀ W, Below w.heap.size w W → Calls Tryd.prog 10 #[] W fun e w' => e = .returned (.bool true) ∧ Below W.heap.size W w') := Lib.hid fun W hW => awake_any W (Nat.le_trans h4 hW.size) (hT.below hW)

set_option maxRecDepth 100000 in
set_option maxHeartbeats 2000000 in
theorem utfSizes_law (c : Nat) (hc : c < 256) (w : World) (h4 : max 0 1 + 1 ≤ w.heap.size) (hT : UT w) :
    Calls Tryd.prog 5 #[.int .u8 c] w fun e w' => e = .returned (.bool true) ∧ Below w.heap.size w w' := by
  have HA := awake_hid h4 hT
  have HI : Hid (∀ W, Below w.heap.size w W → Calls Tryd.prog 17 #[.slice (some ⟨W.heap.size, 0, none⟩) 1 1] (W.alloc (.cells #[.int .u8 c] 5)) fun e w' => e = .returned (.bool (isB [c])) ∧ Below w.heap.size w w') := Lib.hid fun W hW =>
    (is_any _ [c] 1 1 rfl _ (bs_new W [c] (by simpa using hc))).mono fun e w' h => ⟨h.1, bel1 hW h.2⟩
  have HB : Hid (∀ W, Below w.heap.size w W → Calls Tryd.prog 18 #[.slice (some ⟨W.heap.size, 0, none⟩) 1 1] (W.alloc (.cells #[.int .u8 c] 5)) fun e w' => e = .returned (.bool (!fullB [c])) ∧ Below w.heap.size w w') := Lib.hid fun W hW =>
    (begins_all W.heap.size 0 [c] 1 1 rfl (by omega) (by omega) _ (bs_new W [c] (by simpa using hc))).mono fun e w' h => ⟨h.1, bel1 hW h.2⟩
  have HS : Hid (∀ W, Calls Tryd.prog 19 #[.int .u8 c] W fun e w' => e = .returned (.int .i64 (wantN c)) ∧ W = w') := Lib.hid fun W => by
    rw [← size_want c hc]
    exact size_any c W
  clear hT h4
  cases h1 : isB [c] with
  | true =>
    have hw : wantN c = 1 := by unfold wantN; rw [if_pos h1]
    rw [h1] at HI
    rw [hw] at HS
    clear h1 hw
    go_enter Tryd.func5, Tryd.ntmps5
    go_wp2_with (first
      | (go_at_call 17; (with_reducible refine (HI.out _ (Below.refl _ _)).mono ?_); clear HI; rintro e w1 ⟨rfl, hb1⟩)
      | (go_at_call 19; (with_reducible refine (HS.out _).mono ?_); rintro e w2 ⟨rfl, rfl⟩)
      | (go_at_call 10; refine (HA.out _ hb1).mono ?_; rintro e w4 ⟨rfl, hb4⟩))
    go_ret
    exact ⟨rfl, bel0 hb1 hb4⟩
  | false =>
    rw [h1] at HI
    cases h2 : fullB [c] with
    | false =>
      rw [h2, show (!false) = true from rfl] at HB
      have hw : wantN c = if 240 ≤ c then 4 else if 224 ≤ c then 3 else 2 := by unfold wantN; rw [if_neg (by rw [h1]; decide), if_pos h2]
      rcases (by omega : 240 ≤ c ∨ (224 ≤ c ∧ c < 240) ∨ c < 224) with hk | hk | hk
      · rw [if_pos hk] at hw
        have k1 : (240 : Int) ≤ c := by omega
        have k2 : (224 : Int) ≤ c := by omega
        rw [hw] at HS
        clear h1 h2 hw hk
        go_enter Tryd.func5, Tryd.ntmps5
        go_wp2_with (first
          | (go_at_call 17; (with_reducible refine (HI.out _ (Below.refl _ _)).mono ?_); clear HI; rintro e w1 ⟨rfl, hb1⟩)
          | (go_at_call 18; (with_reducible refine (HB.out _ hb1).mono ?_); clear HB; rintro e w3 ⟨rfl, hb3⟩)
          | (go_at_call 19; (with_reducible refine (HS.out _).mono ?_); rintro e w2 ⟨rfl, rfl⟩)
          | (go_at_call 10; refine (HA.out _ hb3).mono ?_; rintro e w4 ⟨rfl, hb4⟩))
        go_ret
        exact ⟨rfl, bel0 hb3 hb4⟩
      · rw [if_neg (by omega), if_pos hk.1] at hw
        have k1 : (c : Int) < 240 := by omega
        have k2 : (224 : Int) ≤ c := by omega
        rw [hw] at HS
        clear h1 h2 hw hk
        go_enter Tryd.func5, Tryd.ntmps5
        go_wp2_with (first
          | (go_at_call 17; (with_reducible refine (HI.out _ (Below.refl _ _)).mono ?_); clear HI; rintro e w1 ⟨rfl, hb1⟩)
          | (go_at_call 18; (with_reducible refine (HB.out _ hb1).mono ?_); clear HB; rintro e w3 ⟨rfl, hb3⟩)
          | (go_at_call 19; (with_reducible refine (HS.out _).mono ?_); rintro e w2 ⟨rfl, rfl⟩)
          | (go_at_call 10; refine (HA.out _ hb3).mono ?_; rintro e w4 ⟨rfl, hb4⟩))
        go_ret
        exact ⟨rfl, bel0 hb3 hb4⟩
      · rw [if_neg (by omega), if_neg (by omega)] at hw
        have k1 : (c : Int) < 240 := by omega
        have k2 : (c : Int) < 224 := by omega
        rw [hw] at HS
        clear h1 h2 hw hk
        go_enter Tryd.func5, Tryd.ntmps5
        go_wp2_with (first
          | (go_at_call 17; (with_reducible refine (HI.out _ (Below.refl _ _)).mono ?_); clear HI; rintro e w1 ⟨rfl, hb1⟩)
          | (go_at_call 18; (with_reducible refine (HB.out _ hb1).mono ?_); clear HB; rintro e w3 ⟨rfl, hb3⟩)
          | (go_at_call 19; (with_reducible refine (HS.out _).mono ?_); rintro e w2 ⟨rfl, rfl⟩)
          | (go_at_call 10; refine (HA.out _ hb3).mono ?_; rintro e w4 ⟨rfl, hb4⟩))
        go_ret
        exact ⟨rfl, bel0 hb3 hb4⟩
    | true =>
      rw [h2, show (!true) = false from rfl] at HB
      have hw : wantN c = 0 := by unfold wantN; rw [if_neg (by rw [h1]; decide), if_neg (by rw [h2]; decide)]
      rw [hw] at HS
      clear h1 h2 hw
      go_enter Tryd.func5, Tryd.ntmps5
      go_wp2_with (first
        | (go_at_call 17; (with_reducible refine (HI.out _ (Below.refl _ _)).mono ?_); clear HI; rintro e w1 ⟨rfl, hb1⟩)
        | (go_at_call 18; (with_reducible refine (HB.out _ hb1).mono ?_); clear HB; rintro e w3 ⟨rfl, hb3⟩)
        | (go_at_call 19; (with_reducible refine (HS.out _).mono ?_); rintro e w2 ⟨rfl, rfl⟩)
        | (go_at_call 10; refine (HA.out _ hb3).mono ?_; rintro e w4 ⟨rfl, hb4⟩))
      go_ret
      exact ⟨rfl, bel0 hb3 hb4⟩

theorem utfSizes_lawI (i : Int) (h0 : 0 ≤ i) (h1 : i ≤ 255) (w : World) (h4 : max 0 1 + 1 ≤ w.heap.size) (hT : UT w) :
    Calls Tryd.prog 5 #[.int .u8 i] w fun e w' => e = .returned (.bool true) ∧ Below w.heap.size w w' := by
  obtain ⟨c, rfl⟩ := Int.eq_ofNat_of_zero_le h0
  exact utfSizes_law c (by omega) w h4 hT

end Go.Proofs.YtdhmpnjodcjjpaaDoor
