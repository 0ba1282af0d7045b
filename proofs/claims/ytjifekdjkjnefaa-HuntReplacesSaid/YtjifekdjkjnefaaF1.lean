/- Plain: where a needle stands in a text; the longest of its beginnings that end at a place. -/
import Derived.Test.YtjifekdjkjnefaaKa
import Derived.Lib.Strings
namespace Go.Proofs.Ytjifekdjkjnefaa
open Go.RowKit

/-- A byte of a text, as it is meant. -/
def mt (m : UInt8 → UInt8) (T : List UInt8) (i : Nat) : UInt8 := m (T[i]?.getD 0)
/-- The needle's first k bytes end at p. -/
def EndsAt (m : UInt8 → UInt8) (T N : List UInt8) (p k : Nat) : Prop := k ≤ p ∧ k ≤ N.length ∧ ∀ i, i < k → mt m T (p - k + i) = mt m N i
instance (m : UInt8 → UInt8) (T N : List UInt8) (p k : Nat) : Decidable (EndsAt m T N p k) := by unfold EndsAt; infer_instance
theorem EndsAt.zero (m : UInt8 → UInt8) (T N : List UInt8) (p : Nat) : EndsAt m T N p 0 := ⟨Nat.zero_le _, Nat.zero_le _, fun i h => absurd h (Nat.not_lt_zero i)⟩
theorem EndsAt.succ {m : UInt8 → UInt8} {T N : List UInt8} {p k : Nat} : EndsAt m T N (p + 1) (k + 1) ↔ EndsAt m T N p k ∧ k < N.length ∧ mt m T p = mt m N k := by
  constructor
  · rintro ⟨h1, h2, h3⟩
    refine ⟨⟨by omega, by omega, fun i hi => ?_⟩, by omega, ?_⟩
    · have := h3 i (by omega)
      rwa [show p + 1 - (k + 1) + i = p - k + i by omega] at this
    · have := h3 k (by omega)
      rwa [show p + 1 - (k + 1) + k = p by omega] at this
  · rintro ⟨⟨h1, h2, h3⟩, h4, h5⟩
    refine ⟨by omega, by omega, fun i hi => ?_⟩
    rcases Nat.lt_or_ge i k with h | h
    · rw [show p + 1 - (k + 1) + i = p - k + i by omega]
      exact h3 i h
    · obtain rfl : i = k := by omega
      rw [show p + 1 - (i + 1) + i = p by omega]
      exact h5
theorem EndsAt.comp {m : UInt8 → UInt8} {T N : List UInt8} {p n b : Nat} (h : EndsAt m T N p n) (h2 : EndsAt m N N n b) : EndsAt m T N p b := by
  obtain ⟨h1, h2', h3⟩ := h
  obtain ⟨g1, g2, g3⟩ := h2
  refine ⟨by omega, g2, fun i hi => ?_⟩
  have := h3 (n - b + i) (by omega)
  rw [show p - n + (n - b + i) = p - b + i by omega] at this
  rw [this, g3 i hi]
theorem EndsAt.dec {m : UInt8 → UInt8} {T N : List UInt8} {p n k : Nat} (h : EndsAt m T N p n) (h2 : EndsAt m T N p k) (hk : k ≤ n) : EndsAt m N N n k := by
  obtain ⟨h1, h2', h3⟩ := h
  obtain ⟨g1, g2, g3⟩ := h2
  refine ⟨hk, g2, fun i hi => ?_⟩
  have := h3 (n - k + i) (by omega)
  rw [show p - n + (n - k + i) = p - k + i by omega] at this
  rw [← this, g3 i hi]
/-- The greatest number up to n with a property, or 0. -/
def gr (P : Nat → Prop) [DecidablePred P] : Nat → Nat
  | 0 => 0
  | n + 1 => if P (n + 1) then n + 1 else gr P n
theorem gr_le (P : Nat → Prop) [DecidablePred P] : ∀ n, gr P n ≤ n
  | 0 => Nat.le_refl _
  | n + 1 => by
    unfold gr
    split
    · exact Nat.le_refl _
    · exact Nat.le_succ_of_le (gr_le P n)
theorem gr_is (P : Nat → Prop) [DecidablePred P] (h0 : P 0) : ∀ n, P (gr P n)
  | 0 => h0
  | n + 1 => by
    unfold gr
    split
    · assumption
    · exact gr_is P h0 n
theorem gr_max (P : Nat → Prop) [DecidablePred P] : ∀ n k, k ≤ n → P k → k ≤ gr P n
  | 0, k, h, _ => h
  | n + 1, k, h, hk => by
    unfold gr
    split
    · exact h
    · rename_i hn
      rcases Nat.lt_or_ge k (n + 1) with h1 | h1
      · exact gr_max P n k (by omega) hk
      · obtain rfl : k = n + 1 := by omega
        exact absurd hk hn
/-- How many of the needle's first bytes end at p, from fr on, at most. -/
def mx (m : UInt8 → UInt8) (T N : List UInt8) (fr p : Nat) : Nat := gr (EndsAt m T N p) (p - fr)
theorem mx_le (m : UInt8 → UInt8) (T N : List UInt8) (fr p : Nat) : mx m T N fr p ≤ p - fr := gr_le _ _
theorem mx_is (m : UInt8 → UInt8) (T N : List UInt8) (fr p : Nat) : EndsAt m T N p (mx m T N fr p) := gr_is _ (EndsAt.zero m T N p) _
theorem mx_max {m : UInt8 → UInt8} {T N : List UInt8} {fr p k : Nat} (h : EndsAt m T N p k) (hk : k ≤ p - fr) : k ≤ mx m T N fr p := gr_max _ _ k hk h
theorem mx_eq {m : UInt8 → UInt8} {T N : List UInt8} {fr p n : Nat} (h : EndsAt m T N p n) (hn : n ≤ p - fr) (hm : ∀ k, EndsAt m T N p k → k ≤ p - fr → k ≤ n) : mx m T N fr p = n :=
  Nat.le_antisymm (hm _ (mx_is m T N fr p) (mx_le m T N fr p)) (mx_max h hn)
theorem mx_fr (m : UInt8 → UInt8) (T N : List UInt8) (fr : Nat) : mx m T N fr fr = 0 := by unfold mx; rw [Nat.sub_self]; rfl
/-- Of byte i of the needle how many of its first bytes end with it (not all up to it). -/
def bd (m : UInt8 → UInt8) (N : List UInt8) (i : Nat) : Nat := mx m N N 1 (i + 1)
/-- What may still be gone on from. -/
def Cd (m : UInt8 → UInt8) (T N : List UInt8) (fr p n : Nat) : Prop := EndsAt m T N p n ∧ n ≤ p - fr ∧ ∀ k, EndsAt m T N (p + 1) (k + 1) → k + 1 ≤ p + 1 - fr → k ≤ n
theorem cd_first (m : UInt8 → UInt8) (T N : List UInt8) (fr p : Nat) (hf : fr ≤ p) : Cd m T N fr p (mx m T N fr p) :=
  ⟨mx_is m T N fr p, mx_le m T N fr p, fun k h hk => mx_max (EndsAt.succ.1 h).1 (by omega)⟩
theorem cd_yes {m : UInt8 → UInt8} {T N : List UInt8} {fr p n : Nat} (hf : fr ≤ p) (h : Cd m T N fr p n) (hn : n < N.length) (he : mt m T p = mt m N n) : mx m T N fr (p + 1) = n + 1 :=
  mx_eq (EndsAt.succ.2 ⟨h.1, hn, he⟩) (by have := h.2.1; omega) fun k hk hk2 => by
    match k with
    | 0 => omega
    | k + 1 => have := h.2.2 k hk hk2; omega
theorem cd_none {m : UInt8 → UInt8} {T N : List UInt8} {fr p : Nat} (h : Cd m T N fr p 0) (hn : ¬ (0 < N.length ∧ mt m T p = mt m N 0)) : mx m T N fr (p + 1) = 0 :=
  mx_eq (EndsAt.zero m T N (p + 1)) (Nat.zero_le _) fun k hk hk2 => by
    match k with
    | 0 => omega
    | k + 1 =>
      have h1 := h.2.2 k hk hk2
      obtain rfl : k = 0 := by omega
      exact absurd (EndsAt.succ.1 hk).2 hn
theorem cd_next {m : UInt8 → UInt8} {T N : List UInt8} {fr p n : Nat} (h : Cd m T N fr p n) (h0 : 0 < n) (hn : ¬ (n < N.length ∧ mt m T p = mt m N n)) : Cd m T N fr p (bd m N (n - 1)) := by
  have h1 := mx_is m N N 1 (n - 1 + 1)
  have h2 := mx_le m N N 1 (n - 1 + 1)
  change EndsAt m N N (n - 1 + 1) (bd m N (n - 1)) at h1
  change bd m N (n - 1) ≤ _ at h2
  rw [show n - 1 + 1 = n by omega] at h1 h2
  refine ⟨h.1.comp h1, by have := h.2.1; omega, fun k hk hk2 => ?_⟩
  have h3 := h.2.2 k hk hk2
  have h4 := EndsAt.succ.1 hk
  rcases Nat.lt_or_ge k n with h5 | h5
  · have h6 := h.1.dec h4.1 h3
    have h7 : k ≤ mx m N N 1 (n - 1 + 1) := mx_max (by rw [show n - 1 + 1 = n by omega]; exact h6) (by omega)
    exact h7
  · obtain rfl : k = n := by omega
    exact absurd h4.2 hn
theorem bd_lt (m : UInt8 → UInt8) (N : List UInt8) (i : Nat) : bd m N i ≤ i := by
  have := mx_le m N N 1 (i + 1)
  unfold bd
  omega
/-- A needle stands in a text at a place. -/
def Stands (m : UInt8 → UInt8) (T N : List UInt8) (p : Nat) : Prop := p + N.length ≤ T.length ∧ ∀ i, i < N.length → mt m T (p + i) = mt m N i
instance (m : UInt8 → UInt8) (T N : List UInt8) (p : Nat) : Decidable (Stands m T N p) := by unfold Stands; infer_instance
/-- All places at which it ends by p. -/
def plU (m : UInt8 → UInt8) (T N : List UInt8) (p : Nat) : List Nat := (List.range (p + 1 - N.length)).filter fun a => decide (Stands m T N a)
/-- All places. -/
def pls (m : UInt8 → UInt8) (T N : List UInt8) : List Nat := if N = [] then [] else plU m T N T.length
theorem stands_mx {m : UInt8 → UInt8} {T N : List UInt8} {p : Nat} (hp : p < T.length) : mx m T N 0 (p + 1) = N.length ↔ (N.length ≤ p + 1 ∧ Stands m T N (p + 1 - N.length)) := by
  constructor
  · intro h
    have h1 := mx_is m T N 0 (p + 1)
    rw [h] at h1
    have h2 := h1.1
    exact ⟨h1.1, by omega, h1.2.2⟩
  · rintro ⟨h1, h2, h3⟩
    have h4 : EndsAt m T N (p + 1) N.length := ⟨h1, Nat.le_refl _, h3⟩
    exact mx_eq h4 (by omega) fun k hk _ => hk.2.1
theorem plU_yes {m : UInt8 → UInt8} {T N : List UInt8} {p : Nat} (hp : p < T.length) (h : mx m T N 0 (p + 1) = N.length) : plU m T N (p + 1) = plU m T N p ++ [p + 1 - N.length] := by
  obtain ⟨h1, h2⟩ := (stands_mx hp).1 h
  unfold plU
  rw [show p + 1 + 1 - N.length = p + 1 - N.length + 1 by omega, List.range_succ, List.filter_append]
  simp [h2]
theorem plU_no {m : UInt8 → UInt8} {T N : List UInt8} {p : Nat} (hp : p < T.length) (h : mx m T N 0 (p + 1) ≠ N.length) : plU m T N (p + 1) = plU m T N p := by
  unfold plU
  rcases Nat.lt_or_ge (p + 1) N.length with h1 | h1
  · rw [show p + 1 + 1 - N.length = 0 by omega, show p + 1 - N.length = 0 by omega]
  · rw [show p + 1 + 1 - N.length = p + 1 - N.length + 1 by omega, List.range_succ, List.filter_append]
    have h2 : ¬ Stands m T N (p + 1 - N.length) := fun h2 => h ((stands_mx hp).2 ⟨h1, h2⟩)
    simp [h2]
theorem plU_zero (m : UInt8 → UInt8) (T N : List UInt8) (h : N ≠ []) : plU m T N 0 = [] := by
  unfold plU
  have := List.length_pos_iff.2 h
  rw [show 0 + 1 - N.length = 0 by omega]
  rfl
theorem mx_le_len (m : UInt8 → UInt8) (T N : List UInt8) (fr p : Nat) : mx m T N fr p ≤ N.length := (mx_is m T N fr p).2.1
theorem plU_short (m : UInt8 → UInt8) (T N : List UInt8) (h : T.length < N.length) : plU m T N T.length = [] := by
  unfold plU
  rw [show T.length + 1 - N.length = 0 by omega]
  rfl

end Go.Proofs.Ytjifekdjkjnefaa
