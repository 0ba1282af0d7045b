/- What a mended row is, plain: mended again it is the same; its halves stand beside each other. -/
import Derived.Test.YtfjgfmeanehpmaaGc
namespace Go.Proofs.Ytfjgfmeanehpmaa

theorem mendL_duo (x y : CC) (t : List CC) : mendL (x :: y :: t) = if pairB x y = true then x :: y :: mendL t else (if x.h = 0 then x else bare x) :: mendL (y :: t) := by
  rw [mendL]
theorem pairB_left {x y : CC} (h : pairB x y = true) : x.h = 1 := by
  unfold pairB at h
  simp only [Bool.and_eq_true, beq_iff_eq] at h
  exact h.1
theorem pairB_is {x y : CC} (h : pairB x y = true) : y = { x with h := 2 } := by
  unfold pairB at h
  simp only [Bool.and_eq_true] at h
  exact eqC_eq h.2
theorem pairB_plain {x y : CC} (h : x.h = 0) : pairB x y = false := by
  unfold pairB
  rw [h]
  rfl
theorem plain_h (x : CC) : (if x.h = 0 then x else bare x).h = 0 := by
  split
  · assumption
  · rfl
theorem mendL_idem : ∀ l : List CC, mendL (mendL l) = mendL l
  | [] => rfl
  | [x] => by
    show mendL [if x.h = 0 ∨ x.h = 3 then x else bare x] = [if x.h = 0 ∨ x.h = 3 then x else bare x]
    by_cases h : x.h = 0 ∨ x.h = 3
    · rw [if_pos h]
      show [if x.h = 0 ∨ x.h = 3 then x else bare x] = [x]
      rw [if_pos h]
    · rw [if_neg h]
      rfl
  | x :: y :: t => by
    by_cases hp : pairB x y = true
    · rw [mendL_duo, if_pos hp, mendL_duo, if_pos hp, mendL_idem t]
    · rw [mendL_duo, if_neg hp]
      have ih := mendL_idem (y :: t)
      have hl : (mendL (y :: t)).length = t.length + 1 := mendL_len _
      match hz : mendL (y :: t), hl with
      | z :: T, _ =>
        rw [hz] at ih
        rw [mendL_duo, if_neg (by rw [pairB_plain (plain_h x)]; decide), if_pos (plain_h x), ih]
theorem Ac_one (x : CC) (l : List CC) (i : Nat) : Ac (x :: l) (i + 1) = Ac l i := rfl
theorem Ac_nil (x : CC) (l : List CC) : Ac (x :: l) 0 = x := rfl
/-- In a mended row a left half has its right one behind it. -/
theorem mend_left : ∀ (l : List CC) (i : Nat), i < l.length → (Ac (mendL l) i).h = 1 → i + 1 < l.length ∧ pairB (Ac (mendL l) i) (Ac (mendL l) (i + 1)) = true
  | [], i, hi, _ => by simp at hi
  | [x], i, hi, h => by
    obtain rfl : i = 0 := by simp at hi; exact hi
    have h : (if x.h = 0 ∨ x.h = 3 then x else bare x).h = 1 := h
    split at h
    · rename_i hx
      rcases hx with hx | hx <;> rw [hx] at h <;> cases h
    · cases h
  | x :: y :: t, i, hi, h => by
    by_cases hp : pairB x y = true
    · rw [mendL_duo, if_pos hp] at h ⊢
      match i, hi, h with
      | 0, _, _ => exact ⟨by simp, hp⟩
      | 1, _, h =>
        have h : y.h = 1 := h
        rw [pairB_is hp] at h
        cases h
      | j + 2, hi, h =>
        obtain ⟨h1, h2⟩ := mend_left t j (by simpa using hi) h
        exact ⟨by simp; omega, h2⟩
    · rw [mendL_duo, if_neg hp] at h ⊢
      match i, hi, h with
      | 0, _, h =>
        have h : (if x.h = 0 then x else bare x).h = 1 := h
        rw [plain_h] at h
        cases h
      | j + 1, hi, h =>
        obtain ⟨h1, h2⟩ := mend_left (y :: t) j (by simpa using hi) h
        exact ⟨by simp at h1 ⊢; omega, h2⟩
/-- In a mended row a right half has its left one ahead of it. -/
theorem mend_right : ∀ (l : List CC) (i : Nat), i < l.length → (Ac (mendL l) i).h = 2 → ∃ j, i = j + 1 ∧ pairB (Ac (mendL l) j) (Ac (mendL l) i) = true
  | [], i, hi, _ => by simp at hi
  | [x], i, hi, h => by
    obtain rfl : i = 0 := by simp at hi; exact hi
    have h : (if x.h = 0 ∨ x.h = 3 then x else bare x).h = 2 := h
    split at h
    · rename_i hx
      rcases hx with hx | hx <;> rw [hx] at h <;> cases h
    · cases h
  | x :: y :: t, i, hi, h => by
    by_cases hp : pairB x y = true
    · rw [mendL_duo, if_pos hp] at h ⊢
      match i, hi, h with
      | 0, _, h =>
        have h : x.h = 2 := h
        rw [pairB_left hp] at h
        cases h
      | 1, _, _ => exact ⟨0, rfl, hp⟩
      | j + 2, hi, h =>
        obtain ⟨k, h1, h2⟩ := mend_right t j (by simpa using hi) h
        subst h1
        exact ⟨k + 2, rfl, h2⟩
    · rw [mendL_duo, if_neg hp] at h ⊢
      match i, hi, h with
      | 0, _, h =>
        have h : (if x.h = 0 then x else bare x).h = 2 := h
        rw [plain_h] at h
        cases h
      | j + 1, hi, h =>
        obtain ⟨k, h1, h2⟩ := mend_right (y :: t) j (by simpa using hi) h
        subst h1
        exact ⟨k + 1, rfl, h2⟩
end Go.Proofs.Ytfjgfmeanehpmaa
