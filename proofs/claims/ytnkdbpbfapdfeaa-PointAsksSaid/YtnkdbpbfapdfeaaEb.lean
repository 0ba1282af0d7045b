/- What Right, Lost and Move answer; the document's Shift and Move. -/
import Derived.Test.YtnkdbpbfapdfeaaEa
namespace Go.Proofs.Ytnkdbpbfapdfeaa
open Go.RowKit

theorem okK_cases {k : Int} (h : okK k = true) : k = 0 ∨ k = 1 ∨ k = 2 := by
  have := of_decide_eq_true h
  omega
theorem okK_f {k : Int} (h : okK k = false) : k < 0 ∨ 2 < k := by
  have := of_decide_eq_false h
  omega

theorem right_as (k a n : Int) (b : Bool) (h : okS k a n = b) (w : World) : Calls Try.prog 51 #[.agg #[.int .i64 k, .int .i64 a, .int .i64 n]] w fun e w' => e = .returned (.bool b) ∧ w.alloc (.cells #[.int .i64 k, .int .i64 a, .int .i64 n] 32) = w' := by
  cases hk : okK k with
  | true =>
    cases h1 : num a <;> cases h2 : num n <;> by_cases h3 : 1 ≤ n
    all_goals
      first
        | (have h3' : decide (1 ≤ n) = true := decide_eq_true h3; rw [okS, hk, h1, h2, h3'] at h; clear h3')
        | (have h3' : decide (1 ≤ n) = false := decide_eq_false h3; rw [okS, hk, h1, h2, h3'] at h; clear h3')
      simp only [Bool.and_true, Bool.and_false] at h
      subst h
      have H1 := Lib.hid (isNumber_as a _ h1)
      have H2 := Lib.hid (isNumber_as n _ h2)
      clear h1 h2
      rcases okK_cases hk with rfl | rfl | rfl
      all_goals
        clear hk
        go_enter Try.func51, Try.ntmps51
        go_wp2_with (first
          | (go_at_call 56; (with_reducible refine (H1.out _).mono ?_); rintro e w' ⟨rfl, rfl⟩)
          | (go_at_call 56; (with_reducible refine (H2.out _).mono ?_); rintro e w' ⟨rfl, rfl⟩))
        go_ret
        exact ⟨by simp_all, rfl⟩
  | false =>
    obtain rfl : false = b := by rw [← h, okS, hk]; rfl
    have h1 := okK_f hk
    have hk0 : (k == 0) = false := by simp; omega
    have hk1 : (k == 1) = false := by simp; omega
    have hk2 : (k == 2) = false := by simp; omega
    clear h hk h1
    go_enter Try.func51, Try.ntmps51
    go_wp2
    go_ret
    exact ⟨rfl, rfl⟩
theorem refShift_as (k a n : Int) (b : Bool) (h : okS k a n = b) (w : World) : Calls Try.prog 43 #[.agg #[.int .i64 k, .int .i64 a, .int .i64 n]] w fun e w' => e = .returned (.bool b) ∧ w.alloc (.cells #[.int .i64 k, .int .i64 a, .int .i64 n] 32) = w' := by
  cases hk : okK k with
  | true =>
    have hk' : 0 ≤ k ∧ k ≤ 2 := of_decide_eq_true hk
    obtain ⟨k1, k2⟩ := hk'
    cases h1 : num a <;> cases h2 : num n
    · obtain rfl : false = b := by rw [← h, okS, hk, h1, h2]; rfl
      clear h hk
      have H1 := Lib.hid (refRight_as a _ h1)
      have H2 := Lib.hid (refRight_as n _ h2)
      clear h1 h2
      go_enter Try.func43, Try.ntmps43
      go_wp2_with (first
        | (go_at_call 23; (with_reducible refine (H1.out _).mono ?_); rintro e w' ⟨rfl, rfl⟩)
        | (go_at_call 23; (with_reducible refine (H2.out _).mono ?_); rintro e w' ⟨rfl, rfl⟩))
      go_ret
      exact ⟨by simp_all, rfl⟩
    · obtain rfl : false = b := by rw [← h, okS, hk, h1, h2]; rfl
      clear h hk
      have H1 := Lib.hid (refRight_as a _ h1)
      have H2 := Lib.hid (refRight_as n _ h2)
      clear h1 h2
      go_enter Try.func43, Try.ntmps43
      go_wp2_with (first
        | (go_at_call 23; (with_reducible refine (H1.out _).mono ?_); rintro e w' ⟨rfl, rfl⟩)
        | (go_at_call 23; (with_reducible refine (H2.out _).mono ?_); rintro e w' ⟨rfl, rfl⟩))
      go_ret
      exact ⟨by simp_all, rfl⟩
    · obtain rfl : false = b := by rw [← h, okS, hk, h1, h2]; rfl
      clear h hk
      have H1 := Lib.hid (refRight_as a _ h1)
      have H2 := Lib.hid (refRight_as n _ h2)
      clear h1 h2
      go_enter Try.func43, Try.ntmps43
      go_wp2_with (first
        | (go_at_call 23; (with_reducible refine (H1.out _).mono ?_); rintro e w' ⟨rfl, rfl⟩)
        | (go_at_call 23; (with_reducible refine (H2.out _).mono ?_); rintro e w' ⟨rfl, rfl⟩))
      go_ret
      exact ⟨by simp_all, rfl⟩
    · have hn := num_t h2
      have hb : (n != 0) = b := by
        rw [← h, okS, hk, h1, h2]
        by_cases h0 : n = 0
        · subst h0; rfl
        · rw [show (n != 0) = true by simpa using h0, show decide (1 ≤ n) = true from decide_eq_true (by omega)]; rfl
      have hb' : (n == 0) = !b := by
        rw [← hb]
        simp [bne]
      subst hb
      clear h hk hb'
      have H1 := Lib.hid (refRight_as a _ h1)
      have H2 := Lib.hid (refRight_as n _ h2)
      clear h1 h2 hn
      go_enter Try.func43, Try.ntmps43
      go_wp2_with (first
        | (go_at_call 23; (with_reducible refine (H1.out _).mono ?_); rintro e w' ⟨rfl, rfl⟩)
        | (go_at_call 23; (with_reducible refine (H2.out _).mono ?_); rintro e w' ⟨rfl, rfl⟩))
      go_ret
      exact ⟨by simp_all, rfl⟩
  | false =>
    obtain rfl : false = b := by rw [← h, okS, hk]; rfl
    have h1 := okK_f hk
    clear h hk
    by_cases h0 : 0 ≤ k
    · have h2 : decide (k ≤ 2) = false := decide_eq_false (by omega)
      clear h1
      go_enter Try.func43, Try.ntmps43
      go_wp2
      go_ret
      exact ⟨by simp_all, rfl⟩
    · have h2 : k < 0 := by omega
      clear h1 h0
      go_enter Try.func43, Try.ntmps43
      go_wp2
      go_ret
      exact ⟨by simp_all, rfl⟩

def box (r c : Int) : Obj := .cells #[.int .i64 r, .int .i64 c] 30
def boxS (k a n : Int) : Obj := .cells #[.int .i64 k, .int .i64 a, .int .i64 n] 32
set_option maxHeartbeats 1000000 in
theorem lost_as (r c k a n : Int) (b : Bool) (h : lostB r c k a n = b) (w : World) : Calls Try.prog 41 #[.agg #[.int .i64 r, .int .i64 c], .agg #[.int .i64 k, .int .i64 a, .int .i64 n]] w fun e w' => e = .returned (.bool b) ∧ Below w.heap.size w w' := by
  cases hp : okP r c with
  | false =>
    obtain rfl : false = b := by rw [← h, lostB, hp]; rfl
    have HP := Lib.hid (isPlace_as r c _ hp)
    clear h hp
    go_enter Try.func41, Try.ntmps41
    go_wp2_with (go_at_call 50; (with_reducible refine (HP.out _).mono ?_); rintro e w' ⟨rfl, rfl⟩)
    go_ret
    exact ⟨rfl, belA (belA (belA (Below.refl _ _) _) _) _⟩
  | true =>
  cases hs : okS k a n with
  | false =>
    obtain rfl : false = b := by rw [← h, lostB, hp, hs]; rfl
    have HP := Lib.hid (isPlace_as r c _ hp)
    have HS := Lib.hid (right_as k a n _ hs)
    clear h hp hs
    go_enter Try.func41, Try.ntmps41
    go_wp2_with (first
      | (go_at_call 50; (with_reducible refine (HP.out _).mono ?_); rintro e w' ⟨rfl, rfl⟩)
      | (go_at_call 51; (with_reducible refine (HS.out _).mono ?_); rintro e w' ⟨rfl, rfl⟩))
    go_ret
    exact ⟨rfl, belA (belA (belA (belA (Below.refl _ _) _) _) _) _⟩
  | true =>
  have HP := Lib.hid (isPlace_as r c _ hp)
  have HS := Lib.hid (right_as k a n _ hs)
  have HB := Lib.hid (begin_any k a n)
  by_cases h0 : k = 0
  · subst h0
    obtain rfl : false = b := by rw [← h, lostB, hp, hs]; rfl
    clear h hp hs HB
    go_enter Try.func41, Try.ntmps41
    go_wp2_with (first
      | (go_at_call 50; (with_reducible refine (HP.out _).mono ?_); rintro e w' ⟨rfl, rfl⟩)
      | (go_at_call 51; (with_reducible refine (HS.out _).mono ?_); rintro e w' ⟨rfl, rfl⟩))
    go_ret
    exact ⟨rfl, belA (belA (belA (belA (Below.refl _ _) _) _) _) _⟩
  · have hk0 : (k == 0) = false := by simpa using h0
    simp only [okS, Bool.and_eq_true] at hs
    have ha := num_t hs.1.1.2
    have hn := num_t hs.1.2
    have hs' : okS k a n = true := by simp only [okS, Bool.and_eq_true]; exact hs
    simp only [okP, Bool.and_eq_true] at hp
    have hr := num_t hp.1
    have hp' : okP r c = true := by simp only [okP, Bool.and_eq_true]; exact hp
    have hbz : 0 ≤ begZ k a ∧ begZ k a ≤ 1099511627776 := by unfold begZ; split <;> omega
    rw [lostB, hp', hs', show decide (k ≠ 0) = true from decide_eq_true h0] at h
    simp only [Bool.true_and] at h
    generalize begZ k a = z at *
    obtain ⟨z1, z2⟩ := hbz
    obtain ⟨n1, n2⟩ := hn
    have hw : IntKind.i64.wrap (z + n) = z + n := by rw [IntKind.wrap_i64]; omega
    by_cases hz : z ≤ r
    · have hd : decide (z ≤ r) = true := decide_eq_true hz
      have hb : decide (r < z + n) = b := by rw [← h, hd]; rfl
      subst hb
      clear h hp hs hp' hs' hd ha hr h0
      go_enter Try.func41, Try.ntmps41
      go_wp2_with (first
        | (go_at_call 50; (with_reducible refine (HP.out _).mono ?_); rintro e w' ⟨rfl, rfl⟩)
        | (go_at_call 51; (with_reducible refine (HS.out _).mono ?_); rintro e w' ⟨rfl, rfl⟩)
        | (go_at_call 52; (with_reducible refine (HB.out _).mono ?_); rintro e w' ⟨rfl, rfl⟩))
      go_ret
      exact ⟨by simp_all, belA (belA (belA (belA (belA (Below.refl _ _) _) _) _) _) _⟩
    · have hd : decide (z ≤ r) = false := decide_eq_false hz
      obtain rfl : false = b := by rw [← h, hd]; rfl
      clear h hp hs hp' hs' ha hr h0 hz
      go_enter Try.func41, Try.ntmps41
      go_wp2_with (first
        | (go_at_call 50; (with_reducible refine (HP.out _).mono ?_); rintro e w' ⟨rfl, rfl⟩)
        | (go_at_call 51; (with_reducible refine (HS.out _).mono ?_); rintro e w' ⟨rfl, rfl⟩)
        | (go_at_call 52; (with_reducible refine (HB.out _).mono ?_); rintro e w' ⟨rfl, rfl⟩))
      go_ret
      exact ⟨by simp_all, belA (belA (belA (belA (belA (Below.refl _ _) _) _) _) _) _⟩
end Go.Proofs.Ytnkdbpbfapdfeaa
