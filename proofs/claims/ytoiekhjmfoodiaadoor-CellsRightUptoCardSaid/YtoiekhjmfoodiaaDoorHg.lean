/- What a mended row is, plain: mended again it is the same; its halves stand beside each other. -/
import Derived.Test.YtoiekhjmfoodiaaDoorGc
import Derived.Test.YtoiekhjmfoodiaaDoorGq
namespace Go.Proofs.YtoiekhjmfoodiaaDoor

theorem mendL_duo (x y : CC) (t : List CC) : mendL (x :: y :: t) = if pairB x y = true then x :: y :: mendL t else (if x.h = 0 then x else bare x) :: mendL (y :: t) := by
  rw [mendL]
theorem pairB_left {x y : CC} (h : pairB x y = true) : x.h = 1 := by
  unfold pairB at h
  simp only [Bool.and_eq_true, beq_iff_eq] at h
  exact h.1
theorem pairB_is {x y : CC} (h : pairB x y = true) : y = { x with h := 2 } := by
  unfold pairB at h
  simp only [Bool.and_eq_true] at h
  exact eqC_eq h.2
theorem pairB_plain {x y : CC} (h : x.h = 0) : pairB x y = false := by
  unfold pairB
  rw [h]
  rfl
theorem plain_h (x : CC) : (if x.h = 0 then x else bare x).h = 0 := by
  split
  · assumption
  · rfl
theorem mendL_idem : ∀ l : List CC, mendL (mendL l) = mendL l
  | [] => rfl
  | [x] => by
    show mendL [if x.h = 0 ∨ x.h = 3 then x else bare x] = [if x.h = 0 ∨ x.h = 3 then x else bare x]
    by_cases h : x.h = 0 ∨ x.h = 3
    · rw [if_pos h]
      show [if x.h = 0 ∨ x.h = 3 then x else bare x] = [x]
      rw [if_pos h]
    · rw [if_neg h]
      rfl
  | x :: y :: t => by
    by_cases hp : pairB x y = true
    · rw [mendL_duo, if_pos hp, mendL_duo, if_pos hp, mendL_idem t]
    · rw [mendL_duo, if_neg hp]
      have ih := mendL_idem (y :: t)
      have hl : (mendL (y :: t)).length = t.length + 1 := mendL_len _
      match hz : mendL (y :: t), hl with
      | z :: T, _ =>
        rw [hz] at ih
        rw [mendL_duo, if_neg (by rw [pairB_plain (plain_h x)]; decide), if_pos (plain_h x), ih]
theorem Ac_one (x : CC) (l : List CC) (i : Nat) : Ac (x :: l) (i + 1) = Ac l i := rfl
theorem Ac_nil (x : CC) (l : List CC) : Ac (x :: l) 0 = x := rfl
/-- In a mended row a left half has its right one behind it. -/
theorem mend_left : ∀ (l : List CC) (i : Nat), i < l.length → (Ac (mendL l) i).h = 1 → i + 1 < l.length ∧ pairB (Ac (mendL l) i) (Ac (mendL l) (i + 1)) = true
  | [], i, hi, _ => by simp at hi
  | [x], i, hi, h => by
    obtain rfl : i = 0 := by simp at hi; exact hi
    have h : (if x.h = 0 ∨ x.h = 3 then x else bare x).h = 1 := h
    split at h
    · rename_i hx
      rcases hx with hx | hx <;> rw [hx] at h <;> cases h
    · cases h
  | x :: y :: t, i, hi, h => by
    by_cases hp : pairB x y = true
    · rw [mendL_duo, if_pos hp] at h ⊢
      match i, hi, h with
      | 0, _, _ => exact ⟨by simp, hp⟩
      | 1, _, h =>
        have h : y.h = 1 := h
        rw [pairB_is hp] at h
        cases h
      | j + 2, hi, h =>
        obtain ⟨h1, h2⟩ := mend_left t j (by simpa using hi) h
        exact ⟨by simp; omega, h2⟩
    · rw [mendL_duo, if_neg hp] at h ⊢
      match i, hi, h with
      | 0, _, h =>
        have h : (if x.h = 0 then x else bare x).h = 1 := h
        rw [plain_h] at h
        cases h
      | j + 1, hi, h =>
        obtain ⟨h1, h2⟩ := mend_left (y :: t) j (by simpa using hi) h
        exact ⟨by simp at h1 ⊢; omega, h2⟩
/-- In a mended row a right half has its left one ahead of it. -/
theorem mend_right : ∀ (l : List CC) (i : Nat), i < l.length → (Ac (mendL l) i).h = 2 → ∃ j, i = j + 1 ∧ pairB (Ac (mendL l) j) (Ac (mendL l) i) = true
  | [], i, hi, _ => by simp at hi
  | [x], i, hi, h => by
    obtain rfl : i = 0 := by simp at hi; exact hi
    have h : (if x.h = 0 ∨ x.h = 3 then x else bare x).h = 2 := h
    split at h
    · rename_i hx
      rcases hx with hx | hx <;> rw [hx] at h <;> cases h
    · cases h
  | x :: y :: t, i, hi, h => by
    by_cases hp : pairB x y = true
    · rw [mendL_duo, if_pos hp] at h ⊢
      match i, hi, h with
      | 0, _, h =>
        have h : x.h = 2 := h
        rw [pairB_left hp] at h
        cases h
      | 1, _, _ => exact ⟨0, rfl, hp⟩
      | j + 2, hi, h =>
        obtain ⟨k, h1, h2⟩ := mend_right t j (by simpa using hi) h
        subst h1
        exact ⟨k + 2, rfl, h2⟩
    · rw [mendL_duo, if_neg hp] at h ⊢
      match i, hi, h with
      | 0, _, h =>
        have h : (if x.h = 0 then x else bare x).h = 2 := h
        rw [plain_h] at h
        cases h
      | j + 1, hi, h =>
        obtain ⟨k, h1, h2⟩ := mend_right (y :: t) j (by simpa using hi) h
        subst h1
        exact ⟨k + 1, rfl, h2⟩
end Go.Proofs.YtoiekhjmfoodiaaDoor

namespace Go.Proofs.YtoiekhjmfoodiaaDoor

theorem eraseTo_get (L : List CC) (z1 z2 : Int) (x : CC) (j : Nat) : ∀ i, (eraseTo L z1 z2 x i)[j]? = if j < i ∧ z1 ≤ j ∧ (j : Int) < z2 ∧ j < L.length then some x else L[j]?
  | 0 => by
    rw [if_neg (by omega)]
    rfl
  | i + 1 => by
    have ih := eraseTo_get L z1 z2 x j i
    have hl := eraseTo_len L z1 z2 x i
    unfold eraseTo
    by_cases h : z1 ≤ i ∧ (i : Int) < z2
    · rw [if_pos h]
      by_cases e : i = j
      · subst e
        by_cases hi : i < L.length
        · rw [List.getElem?_set_self (by omega), if_pos ⟨by omega, h.1, h.2, hi⟩]
        · rw [if_neg (by omega), List.getElem?_eq_none (by rw [List.length_set]; omega), List.getElem?_eq_none (by omega)]
      · rw [List.getElem?_set_ne e, ih]
        by_cases hc : j < i ∧ z1 ≤ j ∧ (j : Int) < z2 ∧ j < L.length
        · rw [if_pos hc, if_pos ⟨by omega, hc.2⟩]
        · rw [if_neg hc, if_neg (by omega)]
    · rw [if_neg h, ih]
      by_cases hc : j < i ∧ z1 ≤ j ∧ (j : Int) < z2 ∧ j < L.length
      · rw [if_pos hc, if_pos ⟨by omega, hc.2⟩]
      · rw [if_neg hc, if_neg (fun h' => hc ⟨by
          have : j ≠ i := fun e => h (by subst e; exact ⟨h'.2.1, h'.2.2.1⟩)
          omega, h'.2⟩)]
theorem blankK_get (L : List CC) (s : Nat) (x : CC) (j : Nat) : ∀ k, (blankK L s x k)[j]? = if s ≤ j ∧ j < s + k ∧ j < L.length then some x else L[j]?
  | 0 => by
    rw [if_neg (by omega)]
    rfl
  | k + 1 => by
    have ih := blankK_get L s x j k
    have hl := blankK_len L s x k
    unfold blankK
    by_cases e : s + k = j
    · subst e
      by_cases hi : s + k < L.length
      · rw [List.getElem?_set_self (by omega), if_pos ⟨by omega, by omega, hi⟩]
      · rw [if_neg (by omega), List.getElem?_eq_none (by rw [List.length_set]; omega), List.getElem?_eq_none (by omega)]
    · rw [List.getElem?_set_ne e, ih]
      by_cases hc : s ≤ j ∧ j < s + k ∧ j < L.length
      · rw [if_pos hc, if_pos ⟨hc.1, by omega, hc.2.2⟩]
      · rw [if_neg hc, if_neg (by omega)]
theorem erase_same (l : List CC) (n f t : Nat) (z1 z2 : Int) (x : CC) (hn : n = l.length) (hf : max z1 0 = (f : Int)) (ht : max (min z2 n) (max z1 0) = (t : Int)) :
    mendL (eraseTo (mendL l) z1 z2 x n) = eraseL l f t x := by
  have hl := mendL_len l
  unfold eraseL
  by_cases h : f < l.length
  · rw [if_pos h]
    congr 1
    apply List.ext_getElem?
    intro j
    rw [eraseTo_get, blankK_get]
    by_cases hc : j < n ∧ z1 ≤ j ∧ (j : Int) < z2 ∧ j < (mendL l).length
    · rw [if_pos hc, if_pos (by omega)]
    · rw [if_neg hc, if_neg (by omega)]
  · rw [if_neg h]
    have e : eraseTo (mendL l) z1 z2 x n = mendL l := by
      apply List.ext_getElem?
      intro j
      rw [eraseTo_get, if_neg (by omega)]
    rw [e, mendL_idem]
end Go.Proofs.YtoiekhjmfoodiaaDoor

namespace Go.Proofs.YtoiekhjmfoodiaaDoor
open Go.RowKit

set_option maxRecDepth 100000 in
set_option maxHeartbeats 4000000 in
theorem refErase_nil (A : Option Addr) (c : Nat) (z1 z2 bk bn : Int) (w : World) :
    Calls Tryd.prog 43 #[.slice A 0 c, .int .i64 z1, .int .i64 z2, .agg #[.int .i64 bk, .int .i64 bn]] w fun e w' => ∃ v, e = .returned v ∧ OC w.heap.size w' v (mendL []) ∧ Below w.heap.size w w' := by
  have hb1 := belA (Below.refl w.heap.size w) (.cells #[.int .i64 bk, .int .i64 bn] 32)
  have HB0 := Lib.hid hb1
  have HF : Hid (∀ W v B, OC B W v (mendL []) → ∃ A' c', v = .slice A' 0 c') := Lib.hid fun W v B ho => by
    obtain ⟨A', c', e, _⟩ := ho.form
    exact ⟨A', c', e⟩
  have HE : Hid (∀ W A' c', Calls Tryd.prog 13 #[.slice A' 0 c'] W fun e w' => ∃ v, e = .returned v ∧ OC W.heap.size w' v (mendL []) ∧ Below W.heap.size W w') := Lib.hid fun W A' c' => refMend_any A' [] 0 c' rfl (by decide) W (fun h => absurd rfl h)
  have HM := HE
  clear hb1
  generalize mendL [] = l1 at *
  go_enter Tryd.func43, Tryd.ntmps43
  go_wp2_with (go_at_call 13; (with_reducible refine (HM.out _ _ _).mono ?_); rintro e w1 ⟨v, rfl, ho, hb⟩; obtain ⟨A', c', rfl⟩ := HF.out _ _ _ ho; have HB1 := Lib.hid (bel0 HB0.out hb); clear ho hb HM)
  go_loopw [10] (fun q wr => q = .int .i64 0 ∧ Hid (Below w.heap.size w wr)) (fun _ _ => 0)
  case atStart => exact ⟨rfl, HB1⟩
  case round =>
    obtain ⟨rfl, HB⟩ := hrel
    go_wp2_with (go_at_call 13; (with_reducible refine (HE.out _ _ _).mono ?_); rintro e w2 ⟨v, rfl, ho, hb⟩; have HO := Lib.hid ho; have HB2 := Lib.hid (bel0 HB.out hb); clear ho hb)
    go_ret
    exact ⟨_, rfl, HO.out.lower HB.out.size, HB2.out⟩
theorem refErase_any (A : Option Addr) (l : List CC) (n c f t : Nat) (z1 z2 bk bn : Int) (hn : n = l.length) (hl : n ≤ 1000) (hf : max z1 0 = (f : Int)) (ht : max (min z2 n) (max z1 0) = (t : Int)) (w : World) (h : RC w w.heap.size A l) :
    Calls Tryd.prog 43 #[.slice A n c, .int .i64 z1, .int .i64 z2, .agg #[.int .i64 bk, .int .i64 bn]] w fun e w' => ∃ v, e = .returned v ∧ OC w.heap.size w' v (eraseL l f t (blankC bk bn)) ∧ Below w.heap.size w w' := by
  by_cases h0 : 0 < n
  · rw [← erase_same l n f t z1 z2 (blankC bk bn) hn hf ht]
    exact refErase_pos A l n c z1 z2 bk bn hn h0 hl w h
  · obtain rfl : l = [] := List.eq_nil_of_length_eq_zero (by omega)
    obtain rfl : n = 0 := hn
    have e : eraseL [] f t (blankC bk bn) = mendL [] := by
      unfold eraseL
      rw [if_neg (by simp)]
    rw [e]
    exact refErase_nil A c z1 z2 bk bn w
end Go.Proofs.YtoiekhjmfoodiaaDoor
