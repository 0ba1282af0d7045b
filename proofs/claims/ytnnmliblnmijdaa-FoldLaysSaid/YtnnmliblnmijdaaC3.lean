/- What the document shows, row by row: plain; its walk. -/
import Derived.Test.YtnnmliblnmijdaaC1
namespace Go.Proofs.Ytnnmliblnmijdaa
open Go.RowKit

def stepI (r : Int) (s : List T3 × Bool) (f : T3) : List T3 × Bool :=
  if f.1 ≤ r ∧ r < f.2.1 then (if f.1 = r then s.1 ++ [(r, f.2.2, f.2.1 - r)] else s.1, true) else s
def inn (l : List T3) (r : Int) (i : Nat) : List T3 × Bool := (l.take i).foldl (stepI r) ([], false)
theorem inn_snoc (l : List T3) (r : Int) (i : Nat) (h : i < l.length) : inn l r (i + 1) = stepI r (inn l r i) (Nth l i) := by
  unfold inn
  rw [take_snocT l i h]
  simp
def rowI (l : List T3) (r : Int) : List T3 := (inn l r l.length).1 ++ (if (inn l r l.length).2 then [] else [(r, 0, 0)])
def catR (l : List T3) : Nat → List T3
  | 0 => []
  | r + 1 => catR l r ++ rowI l r
theorem inn_len (l : List T3) (r : Int) : ∀ i, i ≤ l.length → (inn l r i).1.length ≤ i
  | 0, _ => by simp [inn]
  | i + 1, h => by
    rw [inn_snoc l r i (by omega)]
    have := inn_len l r i (by omega)
    unfold stepI
    split
    · split
      · simp; omega
      · simp only; omega
    · omega
theorem rowI_len (l : List T3) (r : Int) : (rowI l r).length ≤ l.length + 1 := by
  unfold rowI
  have := inn_len l r l.length (Nat.le_refl _)
  rw [List.length_append]
  split <;> simp <;> omega
theorem catR_len (l : List T3) : ∀ r, (catR l r).length ≤ r * (l.length + 1)
  | 0 => by simp [catR]
  | r + 1 => by
    have h1 := catR_len l r
    have h2 := rowI_len l r
    rw [catR, List.length_append, Nat.add_mul, Nat.one_mul]
    omega
def Cov (f : T3) (r : Int) : Prop := f.1 ≤ r ∧ r < f.2.1
theorem inn_none {l : List T3} {r : Int} (h : ∀ j, j < l.length → ¬ Cov (Nth l j) r) : ∀ i, i ≤ l.length → inn l r i = ([], false)
  | 0, _ => rfl
  | i + 1, hi => by
    rw [inn_snoc l r i (by omega), inn_none h i (by omega)]
    unfold stepI
    rw [if_neg (show ¬ ((Nth l i).1 ≤ r ∧ r < (Nth l i).2.1) from h i (by omega))]
theorem row_none {l : List T3} {r : Int} (h : ∀ j, j < l.length → ¬ Cov (Nth l j) r) : rowI l r = [(r, 0, 0)] := by
  unfold rowI
  rw [inn_none h _ (Nat.le_refl _)]
  rfl
theorem inn_one {l : List T3} {r : Int} (k : Nat) (hk : k < l.length) (hc : Cov (Nth l k) r) (h : ∀ j, j < l.length → j ≠ k → ¬ Cov (Nth l j) r) : ∀ i, i ≤ l.length → inn l r i = if i ≤ k then ([], false) else (if (Nth l k).1 = r then [(r, (Nth l k).2.2, (Nth l k).2.1 - r)] else [], true)
  | 0, _ => by rw [if_pos (Nat.zero_le _)]; rfl
  | i + 1, hi => by
    rw [inn_snoc l r i (by omega), inn_one k hk hc h i (by omega)]
    by_cases e : i = k
    · subst e
      rw [if_pos (Nat.le_refl _), if_neg (by omega)]
      unfold stepI
      rw [if_pos (show (Nth l i).1 ≤ r ∧ r < (Nth l i).2.1 from hc)]
      by_cases e2 : (Nth l i).1 = r
      · rw [if_pos e2, if_pos e2]; rfl
      · rw [if_neg e2, if_neg e2]
    · have hn : ¬ ((Nth l i).1 ≤ r ∧ r < (Nth l i).2.1) := h i (by omega) e
      unfold stepI
      rw [if_neg hn]
      by_cases e2 : i ≤ k
      · rw [if_pos e2, if_pos (by omega)]
      · rw [if_neg e2]
        exact (if_neg (by omega)).symm
theorem row_one {l : List T3} {r : Int} (k : Nat) (hk : k < l.length) (hc : Cov (Nth l k) r) (h : ∀ j, j < l.length → j ≠ k → ¬ Cov (Nth l j) r) : rowI l r = if (Nth l k).1 = r then [(r, (Nth l k).2.2, (Nth l k).2.1 - r)] else [] := by
  unfold rowI
  rw [inn_one k hk hc h _ (Nat.le_refl _), if_neg (by omega)]
  simp
theorem end_mono {rows : Int} {l : List T3} (hr : rightB rows 0 l = true) : ∀ (k j : Nat), j ≤ k → k ≤ l.length → endV l j ≤ endV l k
  | 0, j, h, _ => by obtain rfl : j = 0 := by omega
                     exact Int.le_refl _
  | k + 1, j, h, hk => by
    by_cases e : j = k + 1
    · subst e; exact Int.le_refl _
    · have h1 := end_mono hr k j (by omega) (by omega)
      have h2 := right_at hr k (by omega)
      have e2 : endV l (k + 1) = (Nth l k).2.1 := rfl
      omega
/-- Of right folds: those ahead end ahead, those behind begin behind. -/
theorem apart_of {rows : Int} {l : List T3} (hr : rightB rows 0 l = true) {k j : Nat} (hk : k ≤ l.length) (hj : j < l.length) : (j < k → (Nth l j).2.1 ≤ endV l k) ∧ (k ≤ j → endV l k ≤ (Nth l j).1) :=
  ⟨fun h => end_mono hr k (j + 1) h hk, fun h => by
    have h1 := end_mono hr j k h (by omega)
    have h2 := right_at hr j hj
    omega⟩
theorem cat_rows {l : List T3} (a : Nat) : ∀ m, (∀ r, a ≤ r → r < a + m → rowI l r = [((r : Int), 0, 0)]) → catR l (a + m) = catR l a ++ showL a m
  | 0, _ => by simp [showL]
  | m + 1, h => by
    rw [show a + (m + 1) = (a + m) + 1 by omega, catR, cat_rows a m (fun r h1 h2 => h r h1 (by omega)), h (a + m) (by omega) (by omega), showL, List.append_assoc]
    congr 2
theorem cat_nil {l : List T3} (a : Nat) : ∀ m, (∀ r, a ≤ r → r < a + m → rowI l r = []) → catR l (a + m) = catR l a
  | 0, _ => rfl
  | m + 1, h => by
    rw [show a + (m + 1) = (a + m) + 1 by omega, catR, cat_nil a m (fun r h1 h2 => h r h1 (by omega)), h (a + m) (by omega) (by omega), List.append_nil]
theorem cat_lay {rows : Int} {l : List T3} (hr : rightB rows 0 l = true) : ∀ k, k ≤ l.length → catR l (endV l k).toNat = layK l k
  | 0, _ => rfl
  | k + 1, hk => by
    have ih := cat_lay hr k (by omega)
    have hA := right_at hr k (by omega)
    have e2 : endV l (k + 1) = (Nth l k).2.1 := rfl
    obtain ⟨a, ha⟩ : ∃ a, a = (endV l k).toNat := ⟨_, rfl⟩
    obtain ⟨m, hm⟩ : ∃ m, m = ((Nth l k).1 - endV l k).toNat := ⟨_, rfl⟩
    obtain ⟨q, hq⟩ : ∃ q, (Nth l k).2.1 = (Nth l k).1 + 1 + (q : Nat) := ⟨((Nth l k).2.1 - (Nth l k).1 - 1).toNat, by omega⟩
    have e3 : (endV l (k + 1)).toNat = (a + m) + 1 + q := by rw [e2]; omega
    have others : ∀ r : Int, (Nth l k).1 ≤ r → r < (Nth l k).2.1 → ∀ j, j < l.length → j ≠ k → ¬ Cov (Nth l j) r := fun r h1 h2 j hj hne hc => by
      rcases Nat.lt_or_ge j k with h | h
      · have := (apart_of hr (k := k) (by omega) hj).1 h
        have := hc.2
        omega
      · have := (apart_of hr (k := k + 1) (by omega) hj).2 (by omega)
        have := hc.1
        omega
    have ih' : catR l a = layK l k := by rw [ha]; exact ih
    rw [e3, cat_nil (a + m + 1) q, catR, cat_rows a m, ih', layK, ← hm]
    · rw [row_one k (by omega) ⟨by omega, by omega⟩ (others _ (by omega) (by omega)), if_pos (by omega)]
      have e4 : ((a + m : Nat) : Int) = (Nth l k).1 := by omega
      have e5 : (a : Int) = endV l k := by omega
      rw [e4, e5, List.append_assoc]
    · intro r h1 h2
      refine row_none fun j hj hc => ?_
      rcases Nat.lt_or_ge j k with h | h
      · have := (apart_of hr (k := k) (by omega) hj).1 h
        have := hc.2
        omega
      · rcases Nat.lt_or_ge k j with h3 | h3
        · have := (apart_of hr (k := k + 1) (by omega) hj).2 (by omega)
          have := hc.1
          omega
        · obtain rfl : j = k := by omega
          have := hc.1
          omega
    · intro r h1 h2
      rw [row_one k (by omega) ⟨by omega, by omega⟩ (others _ (by omega) (by omega)), if_neg (by omega)]
theorem cat_all {rows : Nat} {l : List T3} (hr : rightB rows 0 l = true) : catR l rows = layV rows l := by
  have h1 := cat_lay hr l.length (Nat.le_refl _)
  have h2 := cnt_in hr (by omega) l.length (Nat.le_refl _)
  obtain ⟨a, ha⟩ : ∃ a, a = (endV l l.length).toNat := ⟨_, rfl⟩
  obtain ⟨m, hm⟩ : ∃ m, m = ((rows : Int) - endV l l.length).toNat := ⟨_, rfl⟩
  have e5 : (a : Int) = endV l l.length := by omega
  unfold layV
  rw [show rows = a + m by omega, cat_rows a m, ← h1, ← ha]
  · rw [show (((a + m : Nat) : Int) - endV l l.length).toNat = m by omega, e5]
  · intro r h3 h4
    refine row_none fun j hj hc => ?_
    have := (apart_of hr (k := l.length) (Nat.le_refl _) hj).1 hj
    have := hc.2
    omega

end Go.Proofs.Ytnnmliblnmijdaa
