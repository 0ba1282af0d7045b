/- Plain: all hits of some needles, in order; the needles with their places. -/
import Derived.Test.YtjifekdjkjnefaaH9
namespace Go.Proofs.Ytjifekdjkjnefaa
open Go.RowKit

def nAt (Ns : List (List UInt8)) (i : Nat) : List UInt8 := Ns[i]?.getD []
/-- A needle stands at a place, and is not empty. -/
def stB (T : List UInt8) (Ns : List (List UInt8)) (a i : Nat) : Bool := decide (nAt Ns i ≠ [] ∧ Stands idL T (nAt Ns i) a)
def rowH (T : List UInt8) (Ns : List (List UInt8)) (a k : Nat) : List (Nat × Nat) := ((List.range k).filter fun i => stB T Ns a i).map fun i => (a, i)
def hU (T : List UInt8) (Ns : List (List UInt8)) (n : Nat) : List (Nat × Nat) := (List.range n).flatMap fun a => rowH T Ns a Ns.length
def hitsL (T : List UInt8) (Ns : List (List UInt8)) : List (Nat × Nat) := hU T Ns T.length
theorem rowH_succ (T : List UInt8) (Ns : List (List UInt8)) (a k : Nat) : rowH T Ns a (k + 1) = rowH T Ns a k ++ if stB T Ns a k = true then [(a, k)] else [] := by
  unfold rowH
  rw [List.range_succ, List.filter_append, List.map_append]
  congr 1
  cases h : stB T Ns a k <;> simp [h]
theorem hU_succ (T : List UInt8) (Ns : List (List UInt8)) (n : Nat) : hU T Ns (n + 1) = hU T Ns n ++ rowH T Ns n Ns.length := by
  unfold hU
  rw [List.range_succ, List.flatMap_append]
  simp
theorem mem_rowH {T : List UInt8} {Ns : List (List UInt8)} {a k : Nat} {x : Nat × Nat} : x ∈ rowH T Ns a k ↔ x.1 = a ∧ x.2 < k ∧ stB T Ns a x.2 = true := by
  unfold rowH
  rw [List.mem_map]
  constructor
  · rintro ⟨i, hi, rfl⟩
    have := List.mem_filter.1 hi
    exact ⟨rfl, List.mem_range.1 this.1, this.2⟩
  · rintro ⟨rfl, h1, h2⟩
    exact ⟨x.2, List.mem_filter.2 ⟨List.mem_range.2 h1, h2⟩, rfl⟩
theorem mem_hU {T : List UInt8} {Ns : List (List UInt8)} {n : Nat} {x : Nat × Nat} : x ∈ hU T Ns n ↔ x.1 < n ∧ x.2 < Ns.length ∧ stB T Ns x.1 x.2 = true := by
  unfold hU
  rw [List.mem_flatMap]
  constructor
  · rintro ⟨a, ha, hx⟩
    obtain ⟨h1, h2, h3⟩ := mem_rowH.1 hx
    exact ⟨by rw [h1]; exact List.mem_range.1 ha, h2, by rw [h1]; exact h3⟩
  · rintro ⟨h1, h2, h3⟩
    exact ⟨x.1, List.mem_range.2 h1, mem_rowH.2 ⟨rfl, h2, h3⟩⟩
theorem rowH_pw (T : List UInt8) (Ns : List (List UInt8)) (a k : Nat) : (rowH T Ns a k).Pairwise fun x y => kk x < kk y := by
  unfold rowH
  refine List.Pairwise.map _ (fun i j h => ?_) (List.Pairwise.filter _ (List.pairwise_lt_range (n := k)))
  unfold kk
  show a * 1000 + i < a * 1000 + j
  omega
theorem hU_pw (T : List UInt8) (Ns : List (List UInt8)) (hN : Ns.length ≤ 1000) : ∀ n, (hU T Ns n).Pairwise fun x y => kk x < kk y
  | 0 => List.Pairwise.nil
  | n + 1 => by
    rw [hU_succ]
    refine List.pairwise_append.2 ⟨hU_pw T Ns hN n, rowH_pw T Ns n _, fun x hx y hy => ?_⟩
    have h1 := mem_hU.1 hx
    have h2 := mem_rowH.1 hy
    unfold kk
    omega
theorem mem_pls {T N : List UInt8} {a : Nat} : a ∈ pls idL T N ↔ N ≠ [] ∧ Stands idL T N a := by
  unfold pls
  by_cases h : N = []
  · rw [if_pos h]
    simp [h]
  · rw [if_neg h]
    unfold plU
    rw [List.mem_filter, List.mem_range]
    constructor
    · rintro ⟨_, h2⟩
      exact ⟨h, by simpa using h2⟩
    · rintro ⟨_, h2⟩
      have := h2.1
      have := List.length_pos_iff.2 h
      exact ⟨by omega, by simpa using h2⟩
theorem st_lt {T : List UInt8} {Ns : List (List UInt8)} {a i : Nat} (h : stB T Ns a i = true) : a < T.length := by
  obtain ⟨h1, h2⟩ := of_decide_eq_true h
  have := h2.1
  have := List.length_pos_iff.2 h1
  omega
theorem st_pls {T : List UInt8} {Ns : List (List UInt8)} {a i : Nat} : stB T Ns a i = true ↔ a ∈ pls idL T (nAt Ns i) := by
  rw [mem_pls]
  unfold stB
  rw [decide_eq_true_iff]
/-- The needles that stand somewhere, of the first k. -/
def nL (T : List UInt8) (Ns : List (List UInt8)) : Nat → List Nd
  | 0 => []
  | k + 1 => nL T Ns k ++ if pls idL T (nAt Ns k) = [] then [] else [(k, pls idL T (nAt Ns k))]
theorem cnt_nL (T : List UInt8) (Ns : List (List UInt8)) (a i : Nat) : ∀ k, cnt (nL T Ns k) a i = if i < k ∧ a ∈ pls idL T (nAt Ns i) then 1 else 0
  | 0 => by
    rw [if_neg (by omega)]
    rfl
  | k + 1 => by
    show cnt (nL T Ns k ++ _) a i = _
    rw [cnt_app, cnt_nL T Ns a i k]
    by_cases hp : pls idL T (nAt Ns k) = []
    · rw [if_pos hp]
      by_cases hik : i = k
      · subst hik
        rw [hp]
        simp [cnt]
      · have : (i < k + 1 ∧ a ∈ pls idL T (nAt Ns i)) ↔ (i < k ∧ a ∈ pls idL T (nAt Ns i)) := ⟨fun h => ⟨by omega, h.2⟩, fun h => ⟨by omega, h.2⟩⟩
        simp only [this]
        simp [cnt]
    · rw [if_neg hp, cnt_one]
      by_cases hik : i = k
      · subst hik
        rw [if_neg (fun h => by omega), Nat.zero_add]
        have : (i < i + 1 ∧ a ∈ pls idL T (nAt Ns i)) ↔ (i = i ∧ a ∈ pls idL T (nAt Ns i)) := ⟨fun h => ⟨rfl, h.2⟩, fun h => ⟨by omega, h.2⟩⟩
        simp only [this]
      · rw [if_neg (show ¬ (k = i ∧ a ∈ pls idL T (nAt Ns k)) from fun h => hik h.1.symm), Nat.add_zero]
        have : (i < k + 1 ∧ a ∈ pls idL T (nAt Ns i)) ↔ (i < k ∧ a ∈ pls idL T (nAt Ns i)) := ⟨fun h => ⟨by omega, h.2⟩, fun h => ⟨by omega, h.2⟩⟩
        simp only [this]
theorem nL_ok (T : List UInt8) (Ns : List (List UInt8)) : ∀ k, k ≤ 1000 → ∀ x ∈ nL T Ns k, x.2.Pairwise (· < ·) ∧ x.1 < 1000
  | 0, _, x, h => by simp [nL] at h
  | k + 1, hk, x, h => by
    rcases List.mem_append.1 (show x ∈ nL T Ns k ++ _ from h) with h | h
    · exact nL_ok T Ns k (by omega) x h
    · split at h
      · simp at h
      · rw [List.mem_singleton.1 h]
        exact ⟨pls_pw idL T _, by show k < 1000; omega⟩
theorem rel_hits (T : List UInt8) (Ns : List (List UInt8)) (hN : Ns.length ≤ 1000) : Rel (nL T Ns Ns.length) (hitsL T Ns) := by
  refine ⟨hU_pw T Ns hN _, fun a i => ?_, nL_ok T Ns _ hN⟩
  rw [cnt_nL]
  have : (i < Ns.length ∧ a ∈ pls idL T (nAt Ns i)) ↔ (a, i) ∈ hitsL T Ns := by
    unfold hitsL
    rw [mem_hU, ← st_pls]
    exact ⟨fun h => ⟨st_lt h.2, h.1, h.2⟩, fun h => ⟨h.2.1, h.2.2⟩⟩
  simp only [this]
theorem Rel.same {L M : List Nd} {R : List (Nat × Nat)} (h : Rel L R) (hs : SameN M L) : Rel M R :=
  ⟨h.pw, fun a i => by rw [cnt_same hs]; exact h.cn a i, same_all hs _ h.ok⟩
theorem rowH_le (T : List UInt8) (Ns : List (List UInt8)) (a k : Nat) : (rowH T Ns a k).length ≤ k := by
  unfold rowH
  rw [List.length_map]
  refine Nat.le_trans (List.length_filter_le _ _) ?_
  rw [List.length_range]
  exact Nat.le_refl _
theorem hU_le (T : List UInt8) (Ns : List (List UInt8)) : ∀ n, (hU T Ns n).length ≤ n * Ns.length
  | 0 => by simp [hU]
  | n + 1 => by
    rw [hU_succ, List.length_append]
    have h1 := hU_le T Ns n
    have h2 := rowH_le T Ns n Ns.length
    rw [Nat.add_mul, Nat.one_mul]
    omega

end Go.Proofs.Ytjifekdjkjnefaa
