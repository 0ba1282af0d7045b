/- Plain: the longest hits lie one behind the other; what a text is with others in their places. -/
import Derived.Test.YtjifekdjkjnefaaL9
namespace Go.Proofs.Ytjifekdjkjnefaa
open Go.RowKit

def hAt (D : List (Nat × Nat)) (k : Nat) : Nat × Nat := D[k]?.getD (0, 0)
/-- Where the hit ahead of the k-th ends. -/
def enL (Ns : List (List UInt8)) (D : List (Nat × Nat)) : Nat → Nat
  | 0 => 0
  | k + 1 => (hAt D k).1 + (nAt Ns (hAt D k).2).length
structure ChL (T : List UInt8) (Ns : List (List UInt8)) (D : List (Nat × Nat)) (e : Nat) : Prop where
  hd : ∀ k, k < D.length → enL Ns D k ≤ (hAt D k).1 ∧ (hAt D k).2 < Ns.length ∧ enL Ns D (k + 1) ≤ T.length
  en : e = enL Ns D D.length
theorem hAt_old (D : List (Nat × Nat)) (x : Nat × Nat) (k : Nat) (h : k < D.length) : hAt (D ++ [x]) k = hAt D k := by
  unfold hAt
  rw [List.getElem?_append_left h]
theorem hAt_new (D : List (Nat × Nat)) (x : Nat × Nat) : hAt (D ++ [x]) D.length = x := by
  unfold hAt
  rw [List.getElem?_append_right (Nat.le_refl _), Nat.sub_self]
  rfl
theorem enL_old (Ns : List (List UInt8)) (D : List (Nat × Nat)) (x : Nat × Nat) : ∀ k, k ≤ D.length → enL Ns (D ++ [x]) k = enL Ns D k
  | 0, _ => rfl
  | k + 1, h => by
    show (hAt (D ++ [x]) k).1 + (nAt Ns (hAt (D ++ [x]) k).2).length = (hAt D k).1 + (nAt Ns (hAt D k).2).length
    rw [hAt_old D x k (by omega)]
theorem ChL.snoc {T : List UInt8} {Ns : List (List UInt8)} {D : List (Nat × Nat)} {e p i : Nat} (h : ChL T Ns D e) (he : e ≤ p) (hi : i < Ns.length) (ht : p + (nAt Ns i).length ≤ T.length) : ChL T Ns (D ++ [(p, i)]) (p + (nAt Ns i).length) := by
  have hl : (D ++ [(p, i)]).length = D.length + 1 := by simp
  have hx : enL Ns (D ++ [(p, i)]) (D.length + 1) = p + (nAt Ns i).length := by
    show (hAt (D ++ [(p, i)]) D.length).1 + (nAt Ns (hAt (D ++ [(p, i)]) D.length).2).length = _
    rw [hAt_new]
  refine ⟨fun k hk => ?_, by rw [hl, hx]⟩
  rw [hl] at hk
  rcases Nat.lt_or_ge k D.length with h1 | h1
  · rw [enL_old _ _ _ k (by omega), hAt_old _ _ _ h1, enL_old _ _ _ (k + 1) h1]
    exact h.hd k h1
  · obtain rfl : k = D.length := by omega
    rw [enL_old _ _ _ _ (Nat.le_refl _), hAt_new, ← h.en, hx]
    exact ⟨he, hi, ht⟩
theorem chL_go (T : List UInt8) (Ns : List (List UInt8)) : ∀ (fuel p : Nat), T.length - p ≤ fuel → p ≤ T.length → (stL T Ns p).2 ≤ p → ChL T Ns (stL T Ns p).1 (stL T Ns p).2 → ChL T Ns (stL T Ns T.length).1 (stL T Ns T.length).2
  | 0, p, hf, hp, _, h => by
    obtain rfl : p = T.length := by omega
    exact h
  | fuel + 1, p, hf, hp, he, h => by
    rcases Nat.lt_or_ge p T.length with h1 | h1
    · cases hb : bst T Ns p Ns.length with
      | none =>
        have e := stL_none he hb
        exact chL_go T Ns fuel (p + 1) (by omega) h1 (by rw [e]; omega) (by rw [e]; exact h)
      | some i =>
        have e := stL_some he hb
        have hs := bst_st hb
        have hf2 := stB_facts hs.1
        exact chL_go T Ns fuel (p + (nAt Ns i).length) (by omega) hf2.2 (by rw [e]; exact Nat.le_refl _) (by rw [e]; exact h.snoc he hs.2 hf2.2)
    · obtain rfl : p = T.length := by omega
      exact h
theorem chL_all (T : List UInt8) (Ns : List (List UInt8)) : ChL T Ns (lgL Ns (hitsL T Ns)) (stL T Ns T.length).2 :=
  chL_go T Ns T.length 0 (by omega) (Nat.zero_le _) (Nat.le_refl _) ⟨fun k hk => absurd hk (Nat.not_lt_zero k), rfl⟩
/-- The text up to the k-th hit's beginning of what follows it, F in the hits' places. -/
def rpL (T : List UInt8) (Ns : List (List UInt8)) (F : Nat → List UInt8) (D : List (Nat × Nat)) : Nat → List UInt8
  | 0 => []
  | k + 1 => rpL T Ns F D k ++ (T.take (hAt D k).1).drop (enL Ns D k) ++ F (hAt D k).2
theorem rpL_le {T : List UInt8} {Ns : List (List UInt8)} {F : Nat → List UInt8} {D : List (Nat × Nat)} {e M : Nat} (hF : ∀ i, (F i).length ≤ M) (h : ChL T Ns D e) : ∀ k, k ≤ D.length → (rpL T Ns F D k).length ≤ enL Ns D k + k * M
  | 0, _ => Nat.zero_le _
  | k + 1, hk => by
    have ih := rpL_le hF h k (by omega)
    have h1 := h.hd k (by omega)
    have h2 := hF (hAt D k).2
    have h3 : enL Ns D (k + 1) = (hAt D k).1 + (nAt Ns (hAt D k).2).length := rfl
    show (rpL T Ns F D k ++ (T.take (hAt D k).1).drop (enL Ns D k) ++ F (hAt D k).2).length ≤ _
    rw [List.length_append, List.length_append, List.length_drop, List.length_take, Nat.succ_mul]
    omega

end Go.Proofs.Ytjifekdjkjnefaa
