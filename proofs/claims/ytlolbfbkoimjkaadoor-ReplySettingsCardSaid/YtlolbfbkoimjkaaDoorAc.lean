/- The walks of attr.Right and of the document's. -/
import Derived.Test.YtlolbfbkoimjkaaDoorAb
namespace Go.Proofs.YtlolbfbkoimjkaaDoor
open Go.RowKit

/-- Whether an attribute is right, as the program asks it. -/
def rightB (a b c d f : Int) : Bool := colorB a b && (colorB c d && ((bits .andNot .i64 f 1023 == 0) && (bits .and .i64 f 264 != 264)))
set_option maxHeartbeats 2000000 in
set_option maxRecDepth 100000 in
theorem right_any (a b c d f : Int) (w : World) : Calls Tryd.prog 36 #[.agg #[.int .i64 a, .int .i64 b, .int .i64 c, .int .i64 d, .int .i64 f]] w fun e w' => e = .returned (.bool (rightB a b c d f)) ∧ Below w.heap.size w w' := by
  unfold rightB
  have h1 := rightColor_any a b
  have h2 := rightColor_any c d
  generalize colorB a b = p at *
  generalize colorB c d = q at *
  generalize hx : bits .andNot .i64 f 1023 = x
  generalize hy : bits .and .i64 f 264 = y
  rcases Bool.eq_false_or_eq_true p with rfl | rfl
  · rcases Bool.eq_false_or_eq_true q with rfl | rfl
    · rcases Bool.eq_false_or_eq_true (x == 0) with g3 | g3
      · rw [g3]
        go_enter Tryd.func36, Tryd.ntmps36
        go_wp2_with (first | (go_at_call 51; first | (refine (h1 _).mono ?_; clear h1; rintro e w1 ⟨rfl, hb1⟩; have HB1 := Lib.hid (bel1 (Below.refl _ w) hb1); obtain ⟨hc1, _⟩ := bcell hb1; have hz1 := sz1 hb1) | (refine (h2 _).mono ?_; clear h2; rintro e w2 ⟨rfl, hb2⟩; have HB2 := Lib.hid (bel0 HB1.out hb2); obtain ⟨hc2, _⟩ := bcell hb2; have hz2 := Nat.lt_of_lt_of_le hz1 hb2.size)))
        go_ret
        exact ⟨by simp_all, HB2.out⟩
      · rw [g3]
        go_enter Tryd.func36, Tryd.ntmps36
        go_wp2_with (first | (go_at_call 51; first | (refine (h1 _).mono ?_; clear h1; rintro e w1 ⟨rfl, hb1⟩; have HB1 := Lib.hid (bel1 (Below.refl _ w) hb1); obtain ⟨hc1, _⟩ := bcell hb1; have hz1 := sz1 hb1) | (refine (h2 _).mono ?_; clear h2; rintro e w2 ⟨rfl, hb2⟩; have HB2 := Lib.hid (bel0 HB1.out hb2); obtain ⟨hc2, _⟩ := bcell hb2; have hz2 := Nat.lt_of_lt_of_le hz1 hb2.size)))
        go_ret
        exact ⟨by simp_all, HB2.out⟩
    · skip
      go_enter Tryd.func36, Tryd.ntmps36
      go_wp2_with (first | (go_at_call 51; first | (refine (h1 _).mono ?_; clear h1; rintro e w1 ⟨rfl, hb1⟩; have HB1 := Lib.hid (bel1 (Below.refl _ w) hb1); obtain ⟨hc1, _⟩ := bcell hb1; have hz1 := sz1 hb1) | (refine (h2 _).mono ?_; clear h2; rintro e w2 ⟨rfl, hb2⟩; have HB2 := Lib.hid (bel0 HB1.out hb2); obtain ⟨hc2, _⟩ := bcell hb2; have hz2 := Nat.lt_of_lt_of_le hz1 hb2.size)))
      go_ret
      exact ⟨by simp_all, HB2.out⟩
  · skip
    go_enter Tryd.func36, Tryd.ntmps36
    go_wp2_with (first | (go_at_call 51; first | (refine (h1 _).mono ?_; clear h1; rintro e w1 ⟨rfl, hb1⟩; have HB1 := Lib.hid (bel1 (Below.refl _ w) hb1); obtain ⟨hc1, _⟩ := bcell hb1; have hz1 := sz1 hb1) | (refine (h2 _).mono ?_; clear h2; rintro e w2 ⟨rfl, hb2⟩; have HB2 := Lib.hid (bel0 HB1.out hb2); obtain ⟨hc2, _⟩ := bcell hb2; have hz2 := Nat.lt_of_lt_of_le hz1 hb2.size)))
    go_ret
    exact ⟨by simp_all, HB1.out⟩

/-- Whether an attribute is right, as the document's answer asks it. -/
def rightD (a b c d f : Int) : Bool := colorB a b && (colorB c d && (decide (f ≥ 0) && (decide (f < 1024) && !(hasB f 8 && hasB f 256))))
set_option maxHeartbeats 2000000 in
set_option maxRecDepth 100000 in
theorem rightD_any (a b c d f : Int) (h63 : f ≤ 9223372036854775807) (w : World) : Calls Tryd.prog 27 #[.agg #[.int .i64 a, .int .i64 b, .int .i64 c, .int .i64 d, .int .i64 f]] w fun e w' => e = .returned (.bool (rightD a b c d f)) ∧ Below w.heap.size w w' := by
  unfold rightD
  have h1 := color_any a b
  have h2 := color_any c d
  have k1 := has_any f 8 h63 (.inl rfl)
  have k2 := has_any f 256 h63 (.inr rfl)
  clear h63
  generalize colorB a b = p at *
  generalize colorB c d = q at *
  generalize hasB f 8 = r at *
  generalize hasB f 256 = s at *
  rcases Bool.eq_false_or_eq_true p with rfl | rfl
  · rcases Bool.eq_false_or_eq_true q with rfl | rfl
    · rcases Bool.eq_false_or_eq_true (decide (f ≥ 0)) with g3 | g3
      · rcases Bool.eq_false_or_eq_true (decide (f < 1024)) with g4 | g4
        · rw [g3, g4]
          rcases Bool.eq_false_or_eq_true r with rfl | rfl
          · rcases Bool.eq_false_or_eq_true s with rfl | rfl
            · skip
              go_enter Tryd.func27, Tryd.ntmps27
              go_wp2_with (first | (go_at_call 39; first | (refine (h1 _).mono ?_; clear h1; rintro e w1 ⟨rfl, hb1⟩; have HB1 := Lib.hid (bel1 (Below.refl _ w) hb1); obtain ⟨hc1, _⟩ := bcell hb1; have hz1 := sz1 hb1) | (refine (h2 _).mono ?_; clear h2; rintro e w2 ⟨rfl, hb2⟩; have HB2 := Lib.hid (bel0 HB1.out hb2); obtain ⟨hc2, _⟩ := bcell hb2; have hz2 := Nat.lt_of_lt_of_le hz1 hb2.size)) | (go_at_call 40; first | (refine (k1 _).mono ?_; clear k1; rintro e w3 ⟨rfl, hb3⟩; have HB3 := Lib.hid (bel0 HB2.out hb3); obtain ⟨hc3, _⟩ := bcell hb3; have hz3 := Nat.lt_of_lt_of_le hz2 hb3.size) | (refine (k2 _).mono ?_; clear k2; rintro e w4 ⟨rfl, hb4⟩; have HB4 := Lib.hid (bel0 HB3.out hb4))))
              go_ret
              exact ⟨by simp_all, HB4.out⟩
            · skip
              go_enter Tryd.func27, Tryd.ntmps27
              go_wp2_with (first | (go_at_call 39; first | (refine (h1 _).mono ?_; clear h1; rintro e w1 ⟨rfl, hb1⟩; have HB1 := Lib.hid (bel1 (Below.refl _ w) hb1); obtain ⟨hc1, _⟩ := bcell hb1; have hz1 := sz1 hb1) | (refine (h2 _).mono ?_; clear h2; rintro e w2 ⟨rfl, hb2⟩; have HB2 := Lib.hid (bel0 HB1.out hb2); obtain ⟨hc2, _⟩ := bcell hb2; have hz2 := Nat.lt_of_lt_of_le hz1 hb2.size)) | (go_at_call 40; first | (refine (k1 _).mono ?_; clear k1; rintro e w3 ⟨rfl, hb3⟩; have HB3 := Lib.hid (bel0 HB2.out hb3); obtain ⟨hc3, _⟩ := bcell hb3; have hz3 := Nat.lt_of_lt_of_le hz2 hb3.size) | (refine (k2 _).mono ?_; clear k2; rintro e w4 ⟨rfl, hb4⟩; have HB4 := Lib.hid (bel0 HB3.out hb4))))
              go_ret
              exact ⟨by simp_all, HB4.out⟩
          · skip
            go_enter Tryd.func27, Tryd.ntmps27
            go_wp2_with (first | (go_at_call 39; first | (refine (h1 _).mono ?_; clear h1; rintro e w1 ⟨rfl, hb1⟩; have HB1 := Lib.hid (bel1 (Below.refl _ w) hb1); obtain ⟨hc1, _⟩ := bcell hb1; have hz1 := sz1 hb1) | (refine (h2 _).mono ?_; clear h2; rintro e w2 ⟨rfl, hb2⟩; have HB2 := Lib.hid (bel0 HB1.out hb2); obtain ⟨hc2, _⟩ := bcell hb2; have hz2 := Nat.lt_of_lt_of_le hz1 hb2.size)) | (go_at_call 40; first | (refine (k1 _).mono ?_; clear k1; rintro e w3 ⟨rfl, hb3⟩; have HB3 := Lib.hid (bel0 HB2.out hb3); obtain ⟨hc3, _⟩ := bcell hb3; have hz3 := Nat.lt_of_lt_of_le hz2 hb3.size) | (refine (k2 _).mono ?_; clear k2; rintro e w4 ⟨rfl, hb4⟩; have HB4 := Lib.hid (bel0 HB3.out hb4))))
            go_ret
            exact ⟨by simp_all, HB3.out⟩
        · rw [g3, g4]
          go_enter Tryd.func27, Tryd.ntmps27
          go_wp2_with (first | (go_at_call 39; first | (refine (h1 _).mono ?_; clear h1; rintro e w1 ⟨rfl, hb1⟩; have HB1 := Lib.hid (bel1 (Below.refl _ w) hb1); obtain ⟨hc1, _⟩ := bcell hb1; have hz1 := sz1 hb1) | (refine (h2 _).mono ?_; clear h2; rintro e w2 ⟨rfl, hb2⟩; have HB2 := Lib.hid (bel0 HB1.out hb2); obtain ⟨hc2, _⟩ := bcell hb2; have hz2 := Nat.lt_of_lt_of_le hz1 hb2.size)) | (go_at_call 40; first | (refine (k1 _).mono ?_; clear k1; rintro e w3 ⟨rfl, hb3⟩; have HB3 := Lib.hid (bel0 HB2.out hb3); obtain ⟨hc3, _⟩ := bcell hb3; have hz3 := Nat.lt_of_lt_of_le hz2 hb3.size) | (refine (k2 _).mono ?_; clear k2; rintro e w4 ⟨rfl, hb4⟩; have HB4 := Lib.hid (bel0 HB3.out hb4))))
          go_ret
          exact ⟨by simp_all, HB2.out⟩
      · rw [g3]
        go_enter Tryd.func27, Tryd.ntmps27
        go_wp2_with (first | (go_at_call 39; first | (refine (h1 _).mono ?_; clear h1; rintro e w1 ⟨rfl, hb1⟩; have HB1 := Lib.hid (bel1 (Below.refl _ w) hb1); obtain ⟨hc1, _⟩ := bcell hb1; have hz1 := sz1 hb1) | (refine (h2 _).mono ?_; clear h2; rintro e w2 ⟨rfl, hb2⟩; have HB2 := Lib.hid (bel0 HB1.out hb2); obtain ⟨hc2, _⟩ := bcell hb2; have hz2 := Nat.lt_of_lt_of_le hz1 hb2.size)) | (go_at_call 40; first | (refine (k1 _).mono ?_; clear k1; rintro e w3 ⟨rfl, hb3⟩; have HB3 := Lib.hid (bel0 HB2.out hb3); obtain ⟨hc3, _⟩ := bcell hb3; have hz3 := Nat.lt_of_lt_of_le hz2 hb3.size) | (refine (k2 _).mono ?_; clear k2; rintro e w4 ⟨rfl, hb4⟩; have HB4 := Lib.hid (bel0 HB3.out hb4))))
        go_ret
        exact ⟨by simp_all, HB2.out⟩
    · skip
      go_enter Tryd.func27, Tryd.ntmps27
      go_wp2_with (first | (go_at_call 39; first | (refine (h1 _).mono ?_; clear h1; rintro e w1 ⟨rfl, hb1⟩; have HB1 := Lib.hid (bel1 (Below.refl _ w) hb1); obtain ⟨hc1, _⟩ := bcell hb1; have hz1 := sz1 hb1) | (refine (h2 _).mono ?_; clear h2; rintro e w2 ⟨rfl, hb2⟩; have HB2 := Lib.hid (bel0 HB1.out hb2); obtain ⟨hc2, _⟩ := bcell hb2; have hz2 := Nat.lt_of_lt_of_le hz1 hb2.size)) | (go_at_call 40; first | (refine (k1 _).mono ?_; clear k1; rintro e w3 ⟨rfl, hb3⟩; have HB3 := Lib.hid (bel0 HB2.out hb3); obtain ⟨hc3, _⟩ := bcell hb3; have hz3 := Nat.lt_of_lt_of_le hz2 hb3.size) | (refine (k2 _).mono ?_; clear k2; rintro e w4 ⟨rfl, hb4⟩; have HB4 := Lib.hid (bel0 HB3.out hb4))))
      go_ret
      exact ⟨by simp_all, HB2.out⟩
  · skip
    go_enter Tryd.func27, Tryd.ntmps27
    go_wp2_with (first | (go_at_call 39; first | (refine (h1 _).mono ?_; clear h1; rintro e w1 ⟨rfl, hb1⟩; have HB1 := Lib.hid (bel1 (Below.refl _ w) hb1); obtain ⟨hc1, _⟩ := bcell hb1; have hz1 := sz1 hb1) | (refine (h2 _).mono ?_; clear h2; rintro e w2 ⟨rfl, hb2⟩; have HB2 := Lib.hid (bel0 HB1.out hb2); obtain ⟨hc2, _⟩ := bcell hb2; have hz2 := Nat.lt_of_lt_of_le hz1 hb2.size)) | (go_at_call 40; first | (refine (k1 _).mono ?_; clear k1; rintro e w3 ⟨rfl, hb3⟩; have HB3 := Lib.hid (bel0 HB2.out hb3); obtain ⟨hc3, _⟩ := bcell hb3; have hz3 := Nat.lt_of_lt_of_le hz2 hb3.size) | (refine (k2 _).mono ?_; clear k2; rintro e w4 ⟨rfl, hb4⟩; have HB4 := Lib.hid (bel0 HB3.out hb4))))
    go_ret
    exact ⟨by simp_all, HB1.out⟩

set_option maxRecDepth 100000 in
theorem flags_small : ∀ n : Fin 1024, ((bits .andNot .i64 ((n : Nat) : Int) 1023 == 0) && (bits .and .i64 ((n : Nat) : Int) 264 != 264)) = !(hasB ((n : Nat) : Int) 8 && hasB ((n : Nat) : Int) 256) := by decide +kernel
set_option maxRecDepth 100000 in
theorem mask_high : ∀ i : Fin 64, 10 ≤ (i : Nat) → (18446744073709550592 : Nat).testBit i = true := by decide +kernel
set_option maxRecDepth 100000 in
theorem below_mask (x : Nat) (hx : x < 18446744073709551616) (h : x &&& 18446744073709550592 = 0) : x < 1024 := by
  rcases Nat.lt_or_ge x 1024 with h' | h'
  · exact h'
  · obtain ⟨i, hi, ht⟩ := Nat.exists_ge_and_testBit_of_ge_two_pow (n := 10) h'
    have hi64 : i < 64 := by
      rcases Nat.lt_or_ge i 64 with h2 | h2
      · exact h2
      · rw [Nat.testBit_lt_two_pow (Nat.lt_of_lt_of_le hx (Nat.pow_le_pow_right (by decide) h2 : 2 ^ 64 ≤ 2 ^ i))] at ht
        cases ht
    have := congrArg (fun z => z.testBit i) h
    simp only [Nat.testBit_and, ht, mask_high ⟨i, hi64⟩ hi, Nat.zero_testBit] at this
    cases this
set_option maxRecDepth 100000 in
theorem flags_same (f : Int) (h0 : -9223372036854775808 ≤ f) (h1 : f ≤ 9223372036854775807) : ((bits .andNot .i64 f 1023 == 0) && (bits .and .i64 f 264 != 264)) = (decide (f ≥ 0) && (decide (f < 1024) && !(hasB f 8 && hasB f 256))) := by
  by_cases h : 0 ≤ f ∧ f < 1024
  · obtain ⟨n, rfl⟩ : ∃ n : Nat, f = n := ⟨f.toNat, by omega⟩
    have := flags_small ⟨n, by omega⟩
    simp only [] at this
    rw [this]
    have a : decide ((n : Int) ≥ 0) = true := decide_eq_true h.1
    have b : decide ((n : Int) < 1024) = true := decide_eq_true h.2
    rw [a, b]
    simp
  · have hr : (decide (f ≥ 0) && (decide (f < 1024) && !(hasB f 8 && hasB f 256))) = false := by
      rcases (by omega : f < 0 ∨ 1024 ≤ f) with g | g
      · rw [decide_eq_false (show ¬ f ≥ 0 by omega)]; rfl
      · rw [decide_eq_false (show ¬ f < 1024 by omega)]; simp
    rw [hr]
    have hx : bits .andNot .i64 f 1023 ≠ 0 := fun e => by
      have e' : IntKind.i64.wrap ((BitVec.ofInt 64 f &&& ~~~ (BitVec.ofInt 64 1023)).toNat : Int) = 0 := e
      rw [IntKind.wrap_i64, BitVec.toNat_and] at e'
      have hm : (~~~ (BitVec.ofInt 64 1023)).toNat = 18446744073709550592 := by decide +kernel
      rw [hm] at e'
      have hlt : (BitVec.ofInt 64 f).toNat < 18446744073709551616 := (BitVec.ofInt 64 f).isLt
      have hle : (BitVec.ofInt 64 f).toNat &&& 18446744073709550592 ≤ (BitVec.ofInt 64 f).toNat := Nat.and_le_left
      have hz := below_mask _ hlt (by omega)
      rw [BitVec.toNat_ofInt] at hz
      omega
    have : (bits .andNot .i64 f 1023 == 0) = false := by simpa using hx
    rw [this]
    rfl
set_option maxRecDepth 100000 in
theorem right_same (a b c d f : Int) (h0 : -9223372036854775808 ≤ f) (h1 : f ≤ 9223372036854775807) : rightB a b c d f = rightD a b c d f := by
  unfold rightB rightD
  rw [flags_same f h0 h1]

end Go.Proofs.YtlolbfbkoimjkaaDoor
