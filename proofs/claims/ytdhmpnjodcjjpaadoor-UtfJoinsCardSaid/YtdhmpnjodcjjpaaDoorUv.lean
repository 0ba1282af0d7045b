/- Plain facts: the document's Begins says what the program's FullRune denies. -/
import Derived.Test.YtdhmpnjodcjjpaaDoorUk
namespace Go.Proofs.YtdhmpnjodcjjpaaDoor
open Go.RowKit

set_option maxRecDepth 100000 in
theorem beg_1 : ∀ a, a < 256 → begB [a] = !fullB [a] := by decide +kernel

theorem firstT_lo {a : Nat} (h : a < 194) : Lib.firstT a % 8 ≤ 1 := by unfold Lib.firstT; (repeat' split) <;> omega
theorem firstT_hi {a : Nat} (h : 244 < a) : Lib.firstT a % 8 ≤ 1 := by unfold Lib.firstT; (repeat' split) <;> omega
theorem firstT_2 {a : Nat} (h : 194 ≤ a) (h' : a < 224) : Lib.firstT a = 2 := by unfold Lib.firstT; (repeat' split) <;> omega
theorem firstT_3 {a : Nat} (h : 225 ≤ a) (h' : a < 240) (hn : a ≠ 237) : Lib.firstT a = 3 := by unfold Lib.firstT; (repeat' split) <;> omega
theorem firstT_4 {a : Nat} (h : 241 ≤ a) (h' : a < 244) : Lib.firstT a = 4 := by unfold Lib.firstT; (repeat' split) <;> omega

theorem begAt_3 (a b : Nat) : begAt 3 [a, b] = begTest (if 224 ≤ a ∧ a < 240 ∧ 128 ≤ b ∧ b ≤ 191 then 4096 * ((a : Int) - 224) + 64 * ((b : Int) - 128) else -1) (if 224 ≤ a ∧ a < 240 ∧ 128 ≤ b ∧ b ≤ 191 then 4096 * ((a : Int) - 224) + 64 * ((b : Int) - 128) + 63 else -1) 2048 65535 := by
  unfold begAt
  rw [show padL [a, b] 3 128 = [a, b, 128] from rfl, show padL [a, b] 3 191 = [a, b, 191] from rfl, numZ_3, numZ_3]
  congr 1 <;> (split <;> split <;> omega)
theorem begAt_4 (a b : Nat) : begAt 4 [a, b] = begTest (if 240 ≤ a ∧ a < 248 ∧ 128 ≤ b ∧ b ≤ 191 then 262144 * ((a : Int) - 240) + 4096 * ((b : Int) - 128) else -1) (if 240 ≤ a ∧ a < 248 ∧ 128 ≤ b ∧ b ≤ 191 then 262144 * ((a : Int) - 240) + 4096 * ((b : Int) - 128) + 4095 else -1) 65536 1114111 := by
  unfold begAt
  rw [show padL [a, b] 4 128 = [a, b, 128, 128] from rfl, show padL [a, b] 4 191 = [a, b, 191, 191] from rfl, numZ_4, numZ_4]
  congr 1 <;> (split <;> split <;> omega)
theorem begAt_43 (a b c : Nat) : begAt 4 [a, b, c] = begTest (if 240 ≤ a ∧ a < 248 ∧ 128 ≤ b ∧ b ≤ 191 ∧ 128 ≤ c ∧ c ≤ 191 then 262144 * ((a : Int) - 240) + 4096 * ((b : Int) - 128) + 64 * ((c : Int) - 128) else -1) (if 240 ≤ a ∧ a < 248 ∧ 128 ≤ b ∧ b ≤ 191 ∧ 128 ≤ c ∧ c ≤ 191 then 262144 * ((a : Int) - 240) + 4096 * ((b : Int) - 128) + 64 * ((c : Int) - 128) + 63 else -1) 65536 1114111 := by
  unfold begAt
  rw [show padL [a, b, c] 4 128 = [a, b, c, 128] from rfl, show padL [a, b, c] 4 191 = [a, b, c, 191] from rfl, numZ_4, numZ_4]
  congr 1 <;> (split <;> split <;> omega)
theorem test_no {lo hi f t : Int} (h : lo < 0) : begTest lo hi f t = false := decide_eq_false (by omega)

/-- When two bytes are a beginning. -/
theorem full_ab (a b : Nat) : fullB [a, b] = decide (Lib.firstT a % 8 ≤ 2 ∨ b < Lib.accLo (Lib.firstT a / 16) ∨ Lib.accHi (Lib.firstT a / 16) < b) := by
  unfold fullB fullN fullX
  simp
theorem full_abc (a b c : Nat) : fullB [a, b, c] = decide (Lib.firstT a % 8 ≤ 3 ∨ (b < Lib.accLo (Lib.firstT a / 16) ∨ Lib.accHi (Lib.firstT a / 16) < b) ∨ (c < 128 ∨ 191 < c)) := by
  unfold fullB fullN fullX
  simp
theorem beg_2 (a b : Nat) (ha : a < 256) : begB [a, b] = !fullB [a, b] := by
  have e : begB [a, b] = (begAt 3 [a, b] || begAt 4 [a, b]) := by simp [begB, List.range_succ]
  rw [e, begAt_3, begAt_4, full_ab]
  rcases (by omega : a < 194 ∨ (194 ≤ a ∧ a < 224) ∨ a = 224 ∨ a = 237 ∨ (225 ≤ a ∧ a < 240 ∧ a ≠ 237) ∨ a = 240 ∨ a = 244 ∨ (241 ≤ a ∧ a < 244) ∨ 244 < a) with h | h | h | h | h | h | h | h | h
  · have := firstT_lo h
    rw [if_neg (by omega), if_neg (by omega), if_neg (by omega), if_neg (by omega), test_no (by decide), test_no (by decide), decide_eq_true (.inl (by omega))]; rfl
  · rw [firstT_2 h.1 h.2, if_neg (by omega), if_neg (by omega), if_neg (by omega), if_neg (by omega), test_no (by decide), test_no (by decide)]; rfl
  · subst h
    rw [show Lib.firstT 224 = 19 from rfl, if_neg (show ¬ (240 ≤ 224 ∧ 224 < 248 ∧ 128 ≤ b ∧ b ≤ 191) by omega), test_no (show (-1 : Int) < 0 by decide), Bool.or_false]
    rw [show Lib.accLo (19 / 16) = 160 from rfl, show Lib.accHi (19 / 16) = 191 from rfl, show 19 % 8 = 3 from rfl]
    by_cases hb : 128 ≤ b ∧ b ≤ 191
    · rw [if_pos (by omega), if_pos (by omega), ← decide_not]
      unfold begTest
      exact decide_eq_decide.2 (by omega)
    · rw [if_neg (by omega), test_no (by decide), decide_eq_true (by omega)]; rfl
  · subst h
    rw [show Lib.firstT 237 = 35 from rfl, if_neg (show ¬ (240 ≤ 237 ∧ 237 < 248 ∧ 128 ≤ b ∧ b ≤ 191) by omega), test_no (show (-1 : Int) < 0 by decide), Bool.or_false]
    rw [show Lib.accLo (35 / 16) = 128 from rfl, show Lib.accHi (35 / 16) = 159 from rfl, show 35 % 8 = 3 from rfl]
    by_cases hb : 128 ≤ b ∧ b ≤ 191
    · rw [if_pos (by omega), if_pos (by omega), ← decide_not]
      unfold begTest
      exact decide_eq_decide.2 (by omega)
    · rw [if_neg (by omega), test_no (by decide), decide_eq_true (by omega)]; rfl
  · rw [firstT_3 h.1 h.2.1 h.2.2, if_neg (show ¬ (240 ≤ a ∧ a < 248 ∧ 128 ≤ b ∧ b ≤ 191) by omega), test_no (show (-1 : Int) < 0 by decide), Bool.or_false]
    rw [show Lib.accLo (3 / 16) = 128 from rfl, show Lib.accHi (3 / 16) = 191 from rfl, show 3 % 8 = 3 from rfl]
    by_cases hb : 128 ≤ b ∧ b ≤ 191
    · rw [if_pos (by omega), if_pos (by omega), ← decide_not]
      unfold begTest
      exact decide_eq_decide.2 (by omega)
    · rw [if_neg (by omega), test_no (by decide), decide_eq_true (by omega)]; rfl
  · subst h
    rw [show Lib.firstT 240 = 52 from rfl, if_neg (show ¬ (224 ≤ 240 ∧ 240 < 240 ∧ 128 ≤ b ∧ b ≤ 191) by omega), test_no (show (-1 : Int) < 0 by decide), Bool.false_or]
    rw [show Lib.accLo (52 / 16) = 144 from rfl, show Lib.accHi (52 / 16) = 191 from rfl, show 52 % 8 = 4 from rfl]
    by_cases hb : 128 ≤ b ∧ b ≤ 191
    · rw [if_pos (by omega), if_pos (by omega), ← decide_not]
      unfold begTest
      exact decide_eq_decide.2 (by omega)
    · rw [if_neg (by omega), test_no (by decide), decide_eq_true (by omega)]; rfl
  · subst h
    rw [show Lib.firstT 244 = 68 from rfl, if_neg (show ¬ (224 ≤ 244 ∧ 244 < 240 ∧ 128 ≤ b ∧ b ≤ 191) by omega), test_no (show (-1 : Int) < 0 by decide), Bool.false_or]
    rw [show Lib.accLo (68 / 16) = 128 from rfl, show Lib.accHi (68 / 16) = 143 from rfl, show 68 % 8 = 4 from rfl]
    by_cases hb : 128 ≤ b ∧ b ≤ 191
    · rw [if_pos (by omega), if_pos (by omega), ← decide_not]
      unfold begTest
      exact decide_eq_decide.2 (by omega)
    · rw [if_neg (by omega), test_no (by decide), decide_eq_true (by omega)]; rfl
  · rw [firstT_4 h.1 h.2, if_neg (show ¬ (224 ≤ a ∧ a < 240 ∧ 128 ≤ b ∧ b ≤ 191) by omega), test_no (show (-1 : Int) < 0 by decide), Bool.false_or]
    rw [show Lib.accLo (4 / 16) = 128 from rfl, show Lib.accHi (4 / 16) = 191 from rfl, show 4 % 8 = 4 from rfl]
    by_cases hb : 128 ≤ b ∧ b ≤ 191
    · rw [if_pos (by omega), if_pos (by omega), ← decide_not]
      unfold begTest
      exact decide_eq_decide.2 (by omega)
    · rw [if_neg (by omega), test_no (by decide), decide_eq_true (by omega)]; rfl
  · have := firstT_hi h
    rw [if_neg (show ¬ (224 ≤ a ∧ a < 240 ∧ 128 ≤ b ∧ b ≤ 191) by omega), test_no (show (-1 : Int) < 0 by decide), Bool.false_or, decide_eq_true (show _ ∨ _ from .inl (by omega))]
    by_cases hb : 240 ≤ a ∧ a < 248 ∧ 128 ≤ b ∧ b ≤ 191
    · rw [if_pos hb, if_pos hb]
      unfold begTest
      exact decide_eq_false (by omega)
    · rw [if_neg hb, test_no (by decide)]; rfl
theorem beg_3 (a b c : Nat) (ha : a < 256) : begB [a, b, c] = !fullB [a, b, c] := by
  have e : begB [a, b, c] = begAt 4 [a, b, c] := by simp [begB, List.range_succ]
  rw [e, begAt_43, full_abc]
  by_cases hc : 128 ≤ c ∧ c ≤ 191
  · rcases (by omega : a < 194 ∨ (194 ≤ a ∧ a < 224) ∨ a = 224 ∨ a = 237 ∨ (225 ≤ a ∧ a < 240 ∧ a ≠ 237) ∨ a = 240 ∨ a = 244 ∨ (241 ≤ a ∧ a < 244) ∨ 244 < a) with h | h | h | h | h | h | h | h | h
    · have := firstT_lo h
      rw [if_neg (by omega), test_no (by decide), decide_eq_true (.inl (by omega))]; rfl
    · rw [firstT_2 h.1 h.2, if_neg (by omega), test_no (by decide)]; rfl
    · subst h
      rw [if_neg (by omega), test_no (by decide), decide_eq_true (.inl (by decide))]; rfl
    · subst h
      rw [if_neg (by omega), test_no (by decide), decide_eq_true (.inl (by decide))]; rfl
    · rw [firstT_3 h.1 h.2.1 h.2.2, if_neg (by omega), test_no (by decide)]; rfl
    · subst h
      rw [show Lib.firstT 240 = 52 from rfl, show Lib.accLo (52 / 16) = 144 from rfl, show Lib.accHi (52 / 16) = 191 from rfl, show 52 % 8 = 4 from rfl]
      by_cases hb : 128 ≤ b ∧ b ≤ 191
      · rw [if_pos (by omega), if_pos (by omega), ← decide_not]
        unfold begTest
        exact decide_eq_decide.2 (by omega)
      · rw [if_neg (by omega), test_no (by decide), decide_eq_true (by omega)]; rfl
    · subst h
      rw [show Lib.firstT 244 = 68 from rfl, show Lib.accLo (68 / 16) = 128 from rfl, show Lib.accHi (68 / 16) = 143 from rfl, show 68 % 8 = 4 from rfl]
      by_cases hb : 128 ≤ b ∧ b ≤ 191
      · rw [if_pos (by omega), if_pos (by omega), ← decide_not]
        unfold begTest
        exact decide_eq_decide.2 (by omega)
      · rw [if_neg (by omega), test_no (by decide), decide_eq_true (by omega)]; rfl
    · rw [firstT_4 h.1 h.2, show Lib.accLo (4 / 16) = 128 from rfl, show Lib.accHi (4 / 16) = 191 from rfl, show 4 % 8 = 4 from rfl]
      by_cases hb : 128 ≤ b ∧ b ≤ 191
      · rw [if_pos (by omega), if_pos (by omega), ← decide_not]
        unfold begTest
        exact decide_eq_decide.2 (by omega)
      · rw [if_neg (by omega), test_no (by decide), decide_eq_true (by omega)]; rfl
    · have := firstT_hi h
      rw [decide_eq_true (show _ ∨ _ from .inl (by omega))]
      by_cases hb : 240 ≤ a ∧ a < 248 ∧ 128 ≤ b ∧ b ≤ 191 ∧ 128 ≤ c ∧ c ≤ 191
      · rw [if_pos hb, if_pos hb]
        unfold begTest
        exact decide_eq_false (by omega)
      · rw [if_neg hb, test_no (by decide)]; rfl
  · rw [if_neg (by omega), test_no (by decide), decide_eq_true (show _ ∨ _ ∨ _ from .inr (.inr (by omega)))]; rfl
/-- The document's Begins. -/
theorem beg_full (zs : List Nat) (h8 : ∀ z ∈ zs, z < 256) (h0 : zs ≠ []) : begB zs = !fullB zs := by
  match zs, h0, h8 with
  | [a], _, h8 => exact beg_1 a (h8 a (by simp))
  | [a, b], _, h8 => exact beg_2 a b (h8 a (by simp))
  | [a, b, c], _, h8 => exact beg_3 a b c (h8 a (by simp))
  | a :: b :: c :: d :: t, _, h8 =>
    have e : fullB (a :: b :: c :: d :: t) = true := by
      cases hq : fullB (a :: b :: c :: d :: t) with
      | true => rfl
      | false => have := full_four _ h8 hq; simp at this
    rw [e]
    refine List.any_eq_false.2 fun m hm => ?_
    have := List.mem_range.1 hm
    rw [decide_eq_false (by simp; omega)]
    simp

end Go.Proofs.YtdhmpnjodcjjpaaDoor
