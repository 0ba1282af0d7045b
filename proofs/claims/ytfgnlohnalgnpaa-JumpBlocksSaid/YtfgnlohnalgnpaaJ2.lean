/- Plain: where a row stands among rising ones; steps on them, and back. -/
import Derived.Test.YtfgnlohnalgnpaaJ1
namespace Go.Proofs.Ytfgnlohnalgnpaa
open Go.RowKit

/-- The j-th of a list, or 0. -/
abbrev nthI (U : List Int) (j : Nat) : Int := U[j]?.getD 0
theorem nthI_mem {U : List Int} {j : Nat} (h : j < U.length) : nthI U j ∈ U := by
  unfold nthI
  rw [List.getElem?_eq_getElem h]
  exact List.getElem_mem h
theorem nthI_of {U : List Int} {x : Int} (h : x ∈ U) : ∃ j, j < U.length ∧ nthI U j = x := by
  obtain ⟨j, hj, e⟩ := List.mem_iff_getElem.1 h
  exact ⟨j, hj, by unfold nthI; rw [List.getElem?_eq_getElem hj]; exact e⟩
theorem rise_lt {U : List Int} (hU : U.Pairwise (· < ·)) {i j : Nat} (h : i < j) (hj : j < U.length) : nthI U i < nthI U j := by
  unfold nthI
  rw [List.getElem?_eq_getElem hj, List.getElem?_eq_getElem (by omega : i < U.length)]
  exact List.pairwise_iff_getElem.1 hU i j (by omega) hj h
theorem next_at {U : List Int} (hU : U.Pairwise (· < ·)) (x : Int) (k : Nat) (h1 : ∀ j, j < k → j < U.length → nthI U j ≤ x) (h2 : ∀ j, k ≤ j → j < U.length → x < nthI U j) :
    nextV x U = if k < U.length then (nthI U k, true) else (0, false) := by
  have hn := next_is x U
  generalize nextV x U = s at *
  obtain ⟨v, f⟩ := s
  rcases hn with ⟨e, m, l, a⟩ | ⟨e, a⟩
  · simp only at e m l a
    subst e
    obtain ⟨j, hj, hv⟩ := nthI_of m
    have hkj : k ≤ j := by
      rcases Nat.lt_or_ge j k with h | h
      · have := h1 j h hj; omega
      · exact h
    rw [if_pos (by omega)]
    by_cases e : j = k
    · subst e; rw [hv]
    · have h3 := rise_lt hU (i := k) (j := j) (by omega) hj
      have h4 := a _ (nthI_mem (by omega : k < U.length)) (h2 k (Nat.le_refl _) (by omega))
      omega
  · rw [e]
    by_cases hk : k < U.length
    · have h3 := h2 k (Nat.le_refl _) hk
      have h4 := a _ (nthI_mem hk)
      omega
    · rw [if_neg hk]
theorem ahead_at {U : List Int} (hU : U.Pairwise (· < ·)) (x : Int) (k : Nat) (hk : k ≤ U.length) (h1 : ∀ j, j < k → j < U.length → nthI U j < x) (h2 : ∀ j, k ≤ j → j < U.length → x ≤ nthI U j) :
    aheadV x U = if 0 < k then (nthI U (k - 1), true) else (0, false) := by
  have hn := ahead_is x U
  generalize aheadV x U = s at *
  obtain ⟨v, f⟩ := s
  rcases hn with ⟨e, m, l, a⟩ | ⟨e, a⟩
  · simp only at e m l a
    subst e
    obtain ⟨j, hj, hv⟩ := nthI_of m
    have hkj : j < k := by
      rcases Nat.lt_or_ge j k with h | h
      · exact h
      · have := h2 j h hj; omega
    rw [if_pos (by omega)]
    by_cases e : j = k - 1
    · subst e; rw [hv]
    · have h3 := rise_lt hU (i := j) (j := k - 1) (by omega) (by omega)
      have h4 := a _ (nthI_mem (by omega : k - 1 < U.length)) (h1 (k - 1) (by omega) (by omega))
      omega
  · rw [e]
    by_cases h0 : 0 < k
    · have h3 := h1 (k - 1) (by omega) (by omega)
      have h4 := a _ (nthI_mem (by omega : k - 1 < U.length))
      omega
    · rw [if_neg h0]
theorem cnt_split : ∀ {U : List Int}, U.Pairwise (· < ·) → ∀ (x : Int) (j : Nat), j < U.length → (j < U.countP (· < x) ↔ nthI U j < x)
  | [], _, x, j, h => by simp at h
  | y :: U, hU, x, j, h => by
    obtain ⟨h1, h2⟩ := List.pairwise_cons.1 hU
    rw [List.countP_cons]
    by_cases hy : y < x
    · simp only [hy, decide_true, if_true]
      cases j with
      | zero => simp [nthI, hy]
      | succ j =>
        have := cnt_split h2 x j (by simpa using h)
        simp only [nthI, List.getElem?_cons_succ] at this ⊢
        omega
    · have h0 : U.countP (· < x) = 0 := List.countP_eq_zero.2 fun z hz => by have := h1 z hz; simp; omega
      rw [h0]
      simp only [hy, decide_false, Bool.false_eq_true, if_false]
      refine ⟨fun h => by omega, fun h3 => ?_⟩
      cases j with
      | zero => simp only [nthI, List.getElem?_cons_zero, Option.getD_some] at h3; omega
      | succ j =>
        have hj : j < U.length := by simpa using h
        have h4 := h1 _ (nthI_mem hj)
        simp only [nthI, List.getElem?_cons_succ] at h3 h4
        omega
def belV (U : List Int) (x : Int) : Nat := U.countP (· < x)
def abvV (U : List Int) (x : Int) : Nat := belV U x + if U.contains x then 1 else 0
theorem bel_le (U : List Int) (x : Int) : belV U x ≤ U.length := List.countP_le_length
theorem bel_lo {U : List Int} (hU : U.Pairwise (· < ·)) (x : Int) : (∀ j, j < belV U x → j < U.length → nthI U j < x) ∧ (∀ j, belV U x ≤ j → j < U.length → x ≤ nthI U j) :=
  ⟨fun j h hj => (cnt_split hU x j hj).1 h, fun j h hj => by
    rcases Int.lt_or_le (nthI U j) x with h3 | h3
    · have := (cnt_split hU x j hj).2 h3; unfold belV at h; omega
    · exact h3⟩
theorem bel_of {U : List Int} (hU : U.Pairwise (· < ·)) (p : Nat) (hp : p < U.length) : belV U (nthI U p) = p := by
  obtain ⟨h1, h2⟩ := bel_lo hU (nthI U p)
  have hb := bel_le U (nthI U p)
  rcases Nat.lt_trichotomy (belV U (nthI U p)) p with h | h | h
  · have := h2 _ (Nat.le_refl _) (by omega)
    have := rise_lt hU h hp
    omega
  · exact h
  · have := h1 p h hp; omega
theorem abv_lo {U : List Int} (hU : U.Pairwise (· < ·)) (x : Int) : abvV U x ≤ U.length ∧ (∀ j, j < abvV U x → j < U.length → nthI U j ≤ x) ∧ (∀ j, abvV U x ≤ j → j < U.length → x < nthI U j) := by
  obtain ⟨h1, h2⟩ := bel_lo hU x
  have hb := bel_le U x
  unfold abvV
  by_cases hc : U.contains x = true
  · rw [if_pos hc]
    obtain ⟨p, hp, e⟩ := nthI_of (List.contains_iff_mem.1 hc)
    have hbp := bel_of hU p hp
    rw [e] at hbp
    rw [hbp] at h1 h2 ⊢
    refine ⟨by omega, fun j hj hl => ?_, fun j hj hl => ?_⟩
    · by_cases hjp : j = p
      · subst hjp; omega
      · have := h1 j (by omega) hl; omega
    · have := rise_lt hU (i := p) (j := j) (by omega) hl; omega
  · rw [if_neg hc]
    refine ⟨by omega, fun j hj hl => Int.le_of_lt (h1 j (by omega) hl), fun j hj hl => ?_⟩
    have h3 := h2 j (by omega) hl
    by_cases e : x = nthI U j
    · exact absurd (List.contains_iff_mem.2 (e ▸ nthI_mem hl)) hc
    · omega
theorem abv_of {U : List Int} (hU : U.Pairwise (· < ·)) (p : Nat) (hp : p < U.length) : abvV U (nthI U p) = p + 1 := by
  unfold abvV
  rw [bel_of hU p hp, if_pos (List.contains_iff_mem.2 (nthI_mem hp))]
/-- One step on, if there is one. -/
def advV (U : List Int) (x : Int) : Int := if (nextV x U).2 then (nextV x U).1 else x
def bckV (U : List Int) (x : Int) : Int := if (aheadV x U).2 then (aheadV x U).1 else x
def advN (U : List Int) (x : Int) : Nat → Int | 0 => x | k + 1 => advV U (advN U x k)
def bckN (U : List Int) (x : Int) : Nat → Int | 0 => x | k + 1 => bckV U (bckN U x k)
theorem next_abv {U : List Int} (hU : U.Pairwise (· < ·)) (x : Int) : nextV x U = if abvV U x < U.length then (nthI U (abvV U x), true) else (0, false) :=
  next_at hU x _ (abv_lo hU x).2.1 (abv_lo hU x).2.2
theorem ahead_bel {U : List Int} (hU : U.Pairwise (· < ·)) (x : Int) : aheadV x U = if 0 < belV U x then (nthI U (belV U x - 1), true) else (0, false) :=
  ahead_at hU x _ (bel_le U x) (bel_lo hU x).1 (bel_lo hU x).2
theorem adv_nth {U : List Int} (hU : U.Pairwise (· < ·)) (p : Nat) (hp : p < U.length) : advV U (nthI U p) = nthI U (min (p + 1) (U.length - 1)) := by
  unfold advV
  rw [next_abv hU, abv_of hU p hp]
  by_cases h : p + 1 < U.length
  · rw [if_pos h, if_pos rfl, show min (p + 1) (U.length - 1) = p + 1 by omega]
  · rw [if_neg h, if_neg (by simp), show min (p + 1) (U.length - 1) = p by omega]
theorem bck_nth {U : List Int} (hU : U.Pairwise (· < ·)) (p : Nat) (hp : p < U.length) : bckV U (nthI U p) = nthI U (p - 1) := by
  unfold bckV
  rw [ahead_bel hU, bel_of hU p hp]
  by_cases h : 0 < p
  · rw [if_pos h, if_pos rfl]
  · rw [if_neg h, if_neg (by simp), show p = 0 by omega]
theorem advN_at {U : List Int} (hU : U.Pairwise (· < ·)) (x : Int) : ∀ k, advN U x (k + 1) = if abvV U x < U.length then nthI U (min (abvV U x + k) (U.length - 1)) else x
  | 0 => by
    show advV U x = _
    unfold advV
    rw [next_abv hU]
    by_cases h : abvV U x < U.length
    · rw [if_pos h, if_pos h, if_pos rfl, show min (abvV U x + 0) (U.length - 1) = abvV U x by omega]
    · rw [if_neg h, if_neg h, if_neg (by simp)]
  | k + 1 => by
    show advV U (advN U x (k + 1)) = _
    rw [advN_at hU x k]
    by_cases h : abvV U x < U.length
    · rw [if_pos h, if_pos h, adv_nth hU _ (by omega), show min (min (abvV U x + k) (U.length - 1) + 1) (U.length - 1) = min (abvV U x + (k + 1)) (U.length - 1) by omega]
    · rw [if_neg h, if_neg h]
      unfold advV
      rw [next_abv hU, if_neg h, if_neg (by simp)]
theorem bckN_at {U : List Int} (hU : U.Pairwise (· < ·)) (x : Int) : ∀ k, bckN U x (k + 1) = if 0 < belV U x then nthI U (belV U x - 1 - k) else x
  | 0 => by
    show bckV U x = _
    unfold bckV
    rw [ahead_bel hU]
    by_cases h : 0 < belV U x
    · rw [if_pos h, if_pos h, if_pos rfl]; rfl
    · rw [if_neg h, if_neg h, if_neg (by simp)]
  | k + 1 => by
    show bckV U (bckN U x (k + 1)) = _
    rw [bckN_at hU x k]
    have hb := bel_le U x
    by_cases h : 0 < belV U x
    · rw [if_pos h, if_pos h, bck_nth hU _ (by omega), show belV U x - 1 - k - 1 = belV U x - 1 - (k + 1) by omega]
    · rw [if_neg h, if_neg h]
      unfold bckV
      rw [ahead_bel hU, if_neg h, if_neg (by simp)]
/-- Steps on, or back, at once. -/
def stepV (U : List Int) (x n : Int) : Int :=
  if 0 < n ∧ abvV U x < U.length then nthI U (abvV U x + min (n.toNat - 1) (U.length - 1 - abvV U x))
  else if n < 0 ∧ 0 < belV U x then nthI U (belV U x - (-n).toNat) else x
theorem step_up {U : List Int} (hU : U.Pairwise (· < ·)) (x n : Int) (k : Nat) (hk : k = n.toNat ∨ k ≤ n.toNat ∧ U.length ≤ k) (hn : 0 ≤ n) : stepV U x n = advN U x k := by
  unfold stepV
  cases k with
  | zero =>
    show _ = x
    have hl := (abv_lo hU x).1
    rw [if_neg (by omega), if_neg (by omega)]
  | succ k =>
    rw [advN_at hU x k]
    by_cases h : abvV U x < U.length
    · rw [if_pos ⟨by omega, h⟩, if_pos h, show abvV U x + min (n.toNat - 1) (U.length - 1 - abvV U x) = min (abvV U x + k) (U.length - 1) by omega]
    · rw [if_neg (by omega), if_neg (by omega), if_neg h]
theorem step_back {U : List Int} (hU : U.Pairwise (· < ·)) (x n : Int) (k : Nat) (hk : k = (-n).toNat ∨ k ≤ (-n).toNat ∧ U.length ≤ k) (hn : n ≤ 0) : stepV U x n = bckN U x k := by
  unfold stepV
  have hb := bel_le U x
  cases k with
  | zero =>
    show _ = x
    rw [if_neg (by omega), if_neg (by omega)]
  | succ k =>
    rw [bckN_at hU x k, if_neg (by omega)]
    by_cases h : 0 < belV U x
    · rw [if_pos ⟨by omega, h⟩, if_pos h, show belV U x - (-n).toNat = belV U x - 1 - k by omega]
    · rw [if_neg (by omega), if_neg h]
/-- Steps on between stops, and as many back. -/
theorem advN_nth {U : List Int} (hU : U.Pairwise (· < ·)) (p : Nat) (hp : p < U.length) (k : Nat) : advN U (nthI U p) k = nthI U (min (p + k) (U.length - 1)) := by
  cases k with
  | zero => show nthI U p = _; rw [show min (p + 0) (U.length - 1) = p by omega]
  | succ k =>
    rw [advN_at hU, abv_of hU p hp]
    by_cases h : p + 1 < U.length
    · rw [if_pos h, show min (p + 1 + k) (U.length - 1) = min (p + (k + 1)) (U.length - 1) by omega]
    · rw [if_neg h, show min (p + (k + 1)) (U.length - 1) = p by omega]
theorem bckN_nth {U : List Int} (hU : U.Pairwise (· < ·)) (p : Nat) (hp : p < U.length) (k : Nat) : bckN U (nthI U p) k = nthI U (p - k) := by
  cases k with
  | zero => rfl
  | succ k =>
    rw [bckN_at hU, bel_of hU p hp]
    by_cases h : 0 < p
    · rw [if_pos h, show p - 1 - k = p - (k + 1) by omega]
    · rw [if_neg h, show p - (k + 1) = p by omega]
theorem advN_eq {U l : List Int} (h : ∀ x, x ∈ U ↔ x ∈ l) (x : Int) : advV U x = if (nextV x l).2 then (nextV x l).1 else x := by
  unfold advV
  rw [next_eq h]
theorem bckN_eq {U l : List Int} (h : ∀ x, x ∈ U ↔ x ∈ l) (x : Int) : bckV U x = if (aheadV x l).2 then (aheadV x l).1 else x := by
  unfold bckV
  rw [ahead_eq h]

end Go.Proofs.Ytfgnlohnalgnpaa
