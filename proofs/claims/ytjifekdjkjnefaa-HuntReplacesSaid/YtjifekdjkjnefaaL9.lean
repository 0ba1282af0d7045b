/- Plain: the longest hits, place by place. -/
import Derived.Test.YtjifekdjkjnefaaK8
import Derived.Test.YtjifekdjkjnefaaK5
namespace Go.Proofs.Ytjifekdjkjnefaa
open Go.RowKit

/-- The longest needle that stands at a place, of the first k. -/
def bst (T : List UInt8) (Ns : List (List UInt8)) (a : Nat) : Nat → Option Nat
  | 0 => none
  | k + 1 => if stB T Ns a k = true then (match bst T Ns a k with
      | none => some k
      | some i => if (nAt Ns i).length < (nAt Ns k).length then some k else some i) else bst T Ns a k
theorem bst_succ (T : List UInt8) (Ns : List (List UInt8)) (a k : Nat) : bst T Ns a (k + 1) = if stB T Ns a k = true then (match bst T Ns a k with
      | none => some k
      | some i => if (nAt Ns i).length < (nAt Ns k).length then some k else some i) else bst T Ns a k := rfl
theorem stB_facts {T : List UInt8} {Ns : List (List UInt8)} {a i : Nat} (h : stB T Ns a i = true) : 0 < (nAt Ns i).length ∧ a + (nAt Ns i).length ≤ T.length := by
  have h1 := of_decide_eq_true h
  exact ⟨List.length_pos_iff.2 h1.1, h1.2.1⟩
theorem bst_st {T : List UInt8} {Ns : List (List UInt8)} {a i : Nat} : ∀ {k : Nat}, bst T Ns a k = some i → stB T Ns a i = true ∧ i < k
  | 0, h => by cases h
  | k + 1, h => by
    unfold bst at h
    by_cases hs : stB T Ns a k = true
    · rw [if_pos hs] at h
      cases hb : bst T Ns a k with
      | none =>
        rw [hb] at h
        injection h with h
        subst h
        exact ⟨hs, by omega⟩
      | some j =>
        rw [hb] at h
        simp only at h
        split at h
        · injection h with h
          subst h
          exact ⟨hs, by omega⟩
        · injection h with h
          subst h
          have := bst_st hb
          exact ⟨this.1, by omega⟩
    · rw [if_neg hs] at h
      have := bst_st h
      exact ⟨this.1, by omega⟩
def afterB (Ns : List (List UInt8)) (D : List (Nat × Nat)) (e p : Nat) : Option Nat → List (Nat × Nat) × Nat
  | none => (D, e)
  | some i => (D ++ [(p, i)], p + (nAt Ns i).length)
theorem rows_free {T : List UInt8} {Ns : List (List UInt8)} {D : List (Nat × Nat)} {e p : Nat} (h : e ≤ p) : ∀ k, (rowH T Ns p k).foldl (lgS Ns) (D, e) = afterB Ns D e p (bst T Ns p k)
  | 0 => rfl
  | k + 1 => by
    rw [rowH_succ, List.foldl_append, rows_free h k, bst_succ]
    cases hs : stB T Ns p k with
    | false => rfl
    | true =>
      rw [if_pos rfl, if_pos rfl]
      cases hb : bst T Ns p k with
      | none =>
        show lgS Ns (D, e) (p, k) = _
        unfold lgS
        rw [if_pos h]
        rfl
      | some i =>
        have hpos := (stB_facts (bst_st hb).1).1
        show lgS Ns (D ++ [(p, i)], p + (nAt Ns i).length) (p, k) = _
        unfold lgS
        simp only
        rw [if_neg (by omega), List.getLast?_append, List.dropLast_concat]
        by_cases hl : (nAt Ns i).length < (nAt Ns k).length
        · rw [if_pos ⟨rfl, by omega⟩, if_pos hl]
          rfl
        · rw [if_neg (fun e => hl (by have := e.2; omega)), if_neg hl]
          rfl
theorem rows_busy {T : List UInt8} {Ns : List (List UInt8)} {D : List (Nat × Nat)} {e a : Nat} (h : a < e) (hl : (D.getLast?.getD (0, 0)).1 < a) : ∀ k, (rowH T Ns a k).foldl (lgS Ns) (D, e) = (D, e)
  | 0 => rfl
  | k + 1 => by
    rw [rowH_succ, List.foldl_append, rows_busy h hl k]
    cases hs : stB T Ns a k with
    | false => rfl
    | true =>
      rw [if_pos rfl]
      show lgS Ns (D, e) (a, k) = _
      unfold lgS
      simp only
      rw [if_neg (by omega), if_neg (fun e => by have := e.1; omega)]
/-- What is gathered of the hits ahead of a place. -/
def stL (T : List UInt8) (Ns : List (List UInt8)) (a : Nat) : List (Nat × Nat) × Nat := (hU T Ns a).foldl (lgS Ns) ([], 0)
theorem stL_succ (T : List UInt8) (Ns : List (List UInt8)) (a : Nat) : stL T Ns (a + 1) = (rowH T Ns a Ns.length).foldl (lgS Ns) (stL T Ns a) := by
  unfold stL
  rw [hU_succ, List.foldl_append]
theorem stL_none {T : List UInt8} {Ns : List (List UInt8)} {p : Nat} (h : (stL T Ns p).2 ≤ p) (hb : bst T Ns p Ns.length = none) : stL T Ns (p + 1) = stL T Ns p := by
  rw [stL_succ]
  have := rows_free (T := T) (Ns := Ns) (D := (stL T Ns p).1) h Ns.length
  rw [hb] at this
  exact this
theorem stL_some {T : List UInt8} {Ns : List (List UInt8)} {p i : Nat} (h : (stL T Ns p).2 ≤ p) (hb : bst T Ns p Ns.length = some i) : stL T Ns (p + (nAt Ns i).length) = ((stL T Ns p).1 ++ [(p, i)], p + (nAt Ns i).length) := by
  have hpos := (stB_facts (bst_st hb).1).1
  have h1 : stL T Ns (p + 1) = ((stL T Ns p).1 ++ [(p, i)], p + (nAt Ns i).length) := by
    rw [stL_succ]
    have := rows_free (T := T) (Ns := Ns) (D := (stL T Ns p).1) h Ns.length
    rw [hb] at this
    exact this
  have hj : ∀ j, p + 1 + j ≤ p + (nAt Ns i).length → stL T Ns (p + 1 + j) = ((stL T Ns p).1 ++ [(p, i)], p + (nAt Ns i).length) := by
    intro j
    induction j with
    | zero => intro _; exact h1
    | succ j ih =>
      intro hle
      rw [show p + 1 + (j + 1) = p + 1 + j + 1 by omega, stL_succ, ih (by omega)]
      exact rows_busy (by omega) (by rw [List.getLast?_append]; show p < _; omega) _
  have := hj ((nAt Ns i).length - 1) (by omega)
  rw [show p + 1 + ((nAt Ns i).length - 1) = p + (nAt Ns i).length by omega] at this
  exact this

end Go.Proofs.Ytjifekdjkjnefaa
