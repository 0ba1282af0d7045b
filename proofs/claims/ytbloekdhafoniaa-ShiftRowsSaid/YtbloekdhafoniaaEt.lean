/- The document's rows; the law ShiftRows. -/
import Derived.Test.YtbloekdhafoniaaEi
import Derived.Test.YtbloekdhafoniaaKi
namespace Go.Proofs.Ytbloekdhafoniaa
open Go.RowKit

def putB (n : Nat) (k a m : Int) (j : Nat) : Bool := decide (j < n) && (decide (k = 0) || decide ((j : Int) < begZ k a) || decide (begZ k a + m ≤ j))
def insB (k a : Int) (j : Nat) : Bool := decide (k = 0) && decide ((j : Int) = a)
def insL (k a m : Int) (j : Nat) : List Int := if insB k a j = true then List.replicate m.toNat (-1) else []
def rk (n : Nat) (k a m : Int) : Nat → List Int
  | 0 => []
  | j + 1 => (rk n k a m j ++ insL k a m j) ++ if putB n k a m j = true then [(j : Int)] else []
theorem rk_yes {n : Nat} {k a m : Int} {j : Nat} (h : putB n k a m j = true) : rk n k a m (j + 1) = (rk n k a m j ++ insL k a m j) ++ [(j : Int)] := by rw [rk, if_pos h]
theorem rk_no {n : Nat} {k a m : Int} {j : Nat} (h : putB n k a m j = false) : rk n k a m (j + 1) = rk n k a m j ++ insL k a m j := by rw [rk, if_neg (by rw [h]; decide), List.append_nil]
theorem ins_yes {k a m : Int} {j : Nat} (h : insB k a j = true) : insL k a m j = List.replicate m.toNat (-1) := if_pos h
theorem ins_no {k a m : Int} {j : Nat} (h : insB k a j = false) : insL k a m j = [] := if_neg (by rw [h]; decide)
theorem insL_le (k a m : Int) (j : Nat) (hm : m ≤ 60) : (insL k a m j).length ≤ 60 := by
  unfold insL
  split
  · simp; omega
  · simp
theorem rk_le (n : Nat) (k a m : Int) (hm : m ≤ 60) : ∀ j, (rk n k a m j).length ≤ j * 61
  | 0 => by simp [rk]
  | j + 1 => by
    have h1 := rk_le n k a m hm j
    have h2 := insL_le k a m j hm
    rw [rk, List.length_append, List.length_append]
    split
    · simp; omega
    · simp; omega
/-- How many rows there are when the old row j comes. -/
def lenZ (k a m : Int) (j : Nat) : Int := if k = 0 then (if a < j then (j : Int) + m else j) else if (j : Int) ≤ begZ k a then j else if (j : Int) ≤ begZ k a + m then begZ k a else j - m
theorem rk_len (n : Nat) (k a m : Int) (ha : 0 ≤ a) (hm : 1 ≤ m) : ∀ j, j ≤ n → ((rk n k a m j).length : Int) = lenZ k a m j
  | 0, _ => by
    have : 0 ≤ begZ k a := by unfold begZ; split <;> omega
    show (0 : Int) = lenZ k a m 0
    unfold lenZ
    split
    · rw [if_neg (by omega)]; rfl
    · rw [if_pos (by omega)]; rfl
  | j + 1, hj => by
    have ih := rk_len n k a m ha hm j (by omega)
    have hb : 0 ≤ begZ k a := by unfold begZ; split <;> omega
    unfold lenZ at ih ⊢
    by_cases hk : k = 0
    · subst hk
      have hp : putB n 0 a m j = true := by simp [putB]; omega
      rw [rk_yes hp, List.length_append, List.length_append]
      rw [if_pos rfl] at ih ⊢
      by_cases hja : (j : Int) = a
      · have hi : insB 0 a j = true := by simp [insB, hja]
        rw [ins_yes hi, if_pos (by omega), List.length_replicate]
        rw [if_neg (by omega)] at ih
        simp only [List.length_singleton]
        omega
      · have hi : insB 0 a j = false := by simp [insB, hja]
        rw [ins_no hi]
        simp only [List.length_singleton, List.length_nil]
        by_cases hlt : a < (j : Int)
        · rw [if_pos hlt] at ih
          rw [if_pos (by omega)]
          omega
        · rw [if_neg hlt] at ih
          rw [if_neg (by omega)]
          omega
    · rw [if_neg hk] at ih ⊢
      have hi : insB k a j = false := by simp [insB, hk]
      generalize hz : begZ k a = z at *
      by_cases hp : (j : Int) < z ∨ z + m ≤ j
      · have hp' : putB n k a m j = true := by
          have h1 : j < n := by omega
          rcases hp with hp | hp <;> simp [putB, hz, h1, hp]
        rw [rk_yes hp', ins_no hi, List.append_nil, List.length_append, List.length_singleton]
        rcases hp with hp | hp
        · rw [if_pos (by omega)] at ih
          rw [if_pos (by omega)]
          omega
        · rw [if_neg (by omega)] at ih
          rw [if_neg (by omega), if_neg (by omega)]
          by_cases he : (j : Int) ≤ z + m
          · rw [if_pos he] at ih
            omega
          · rw [if_neg he] at ih
            omega
      · have hp' : putB n k a m j = false := by
          have h1 : ¬ (j : Int) < z := by omega
          have h2 : ¬ z + m ≤ (j : Int) := by omega
          simp [putB, hz, hk, h1, h2]
        rw [rk_no hp', ins_no hi, List.append_nil]
        have h1 : ¬ ((j : Int) < z) := by omega
        by_cases he : (j : Int) ≤ z
        · rw [if_pos he] at ih
          rw [if_neg (by omega), if_pos (by omega)]
          omega
        · rw [if_neg he, if_pos (by omega)] at ih
          rw [if_neg (by omega), if_pos (by omega)]
          omega
/-- Each row that is there is found where its place is. -/
def Found (c k a m : Int) (L : List Int) : Prop := ∀ (i : Nat) (v : Int), L[i]? = some v → 0 ≤ v → moveZ v c k a m = ((i : Int), c)
theorem Found.nil (c k a m : Int) : Found c k a m [] := fun i v h => by simp at h
theorem Found.ins {c k a m : Int} {L : List Int} (h : Found c k a m L) (j : Nat) : Found c k a m (L ++ insL k a m j) := fun i v hv h0 => by
  rw [List.getElem?_append] at hv
  split at hv
  · exact h i v hv h0
  · unfold insL at hv
    split at hv
    · rw [List.getElem?_replicate] at hv
      split at hv
      · simp at hv; omega
      · simp at hv
    · simp at hv
theorem Found.snoc {c k a m : Int} {L : List Int} (h : Found c k a m L) (j : Int) (hj : moveZ j c k a m = ((L.length : Int), c)) : Found c k a m (L ++ [j]) := fun i v hv h0 => by
  rw [List.getElem?_append] at hv
  split at hv
  · exact h i v hv h0
  · rw [List.getElem?_singleton] at hv
    split at hv
    · simp at hv
      subst hv
      rw [hj, show i = L.length by omega]
    · simp at hv
theorem rk_found (n : Nat) (hn : n ≤ 255) (c k a m : Int) (hc : 0 ≤ c ∧ c ≤ 255) (hk : 0 ≤ k ∧ k ≤ 2) (ha : 0 ≤ a ∧ a ≤ 60) (hm : 1 ≤ m ∧ m ≤ 60) : ∀ j, j ≤ n + 1 → Found c k a m (rk n k a m j)
  | 0, _ => Found.nil _ _ _ _
  | j + 1, hj => by
    have ih := rk_found n hn c k a m hc hk ha hm j (by omega)
    cases hp : putB n k a m j with
    | false =>
      rw [rk_no hp]
      exact ih.ins j
    | true =>
      rw [rk_yes hp]
      refine (ih.ins j).snoc _ ?_
      have hp2 := hp
      simp only [putB, Bool.and_eq_true, Bool.or_eq_true, decide_eq_true_eq] at hp2
      obtain ⟨hjn, hp3⟩ := hp2
      have hl := rk_len n k a m ha.1 hm.1 j (by omega)
      have okc : okP (j : Int) c = true := by simp [okP, num]; omega
      have oks : okS k a m = true := by simp [okS, okK, num]; omega
      rw [List.length_append]
      by_cases hk0 : k = 0
      · subst hk0
        unfold lenZ at hl
        rw [if_pos rfl] at hl
        by_cases hlt : (j : Int) < a
        · have hi : insB 0 a j = false := by simp [insB]; omega
          rw [if_neg (by omega)] at hl
          rw [show moveZ (j : Int) c 0 a m = ((j : Int), c) from if_pos (.inr (.inr hlt)), ins_no hi]
          simp; omega
        · have e : moveZ (j : Int) c 0 a m = ((j : Int) + m, c) := by
            unfold moveZ
            rw [if_neg (by rw [okc, oks, show begZ 0 a = a from rfl]; simp; omega), if_pos rfl]
          rw [e]
          by_cases hja : (j : Int) = a
          · have hi : insB 0 a j = true := by simp [insB, hja]
            rw [if_neg (by omega)] at hl
            rw [ins_yes hi, List.length_replicate]
            simp; omega
          · have hi : insB 0 a j = false := by simp [insB, hja]
            rw [if_pos (by omega)] at hl
            rw [ins_no hi]
            simp; omega
      · have hi : insB k a j = false := by simp [insB, hk0]
        rw [ins_no hi]
        unfold lenZ at hl
        rw [if_neg hk0] at hl
        rcases hp3 with (h | h) | h
        · exact absurd h hk0
        · rw [if_pos (by omega)] at hl
          rw [show moveZ (j : Int) c k a m = ((j : Int), c) from if_pos (.inr (.inr h))]
          simp; omega
        · have e : moveZ (j : Int) c k a m = ((j : Int) - m, c) := by
            unfold moveZ
            rw [if_neg (by rw [okc, oks]; simp; omega), if_neg hk0, if_neg (by omega)]
          rw [e]
          rw [if_neg (by omega)] at hl
          by_cases he : (j : Int) ≤ begZ k a + m
          · rw [if_pos he] at hl
            simp; omega
          · rw [if_neg he] at hl
            simp; omega
end Go.Proofs.Ytbloekdhafoniaa
