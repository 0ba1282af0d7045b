/- Plain facts on clusters: where they begin, what they take, what fits. -/
import Derived.Test.YtacmldggdacdpaaDoorWj
namespace Go.Proofs.YtacmldggdacdpaaDoor
open Go.RowKit Go.Shelf

def sAt (xs : List Int) (i : Nat) : Nat := (stL xs)[i]?.getD 0
def tAt (xs : List Int) (i : Nat) : Int := textZ (xs.take (sAt xs i))

theorem stK_len' (xs : List Int) (k : Nat) (hk : 0 < k) : (stK xs k).length = (cl xs k).1.length + 1 := by
  simp [stK, Nat.pos_iff_ne_zero.1 hk]
theorem cl_all (xs : List Int) (k : Nat) : (∀ x ∈ (cl xs k).1, x.1 < x.2 ∧ x.2 ≤ k) ∧ (0 < k → (cl xs k).2 < k) := by
  induction k with
  | zero => simp [cl]
  | succ k ih =>
    rw [cl]
    split
    · rename_i h
      refine ⟨fun x hx => ?_, fun _ => by show k < k + 1; omega⟩
      rcases List.mem_append.1 hx with hx | hx
      · have := ih.1 x hx; omega
      · obtain rfl : x = ((cl xs k).2, k) := by simpa using hx
        exact ⟨ih.2 h.1, by show k ≤ k + 1; omega⟩
    · refine ⟨fun x hx => by have := ih.1 x hx; omega, fun _ => ?_⟩
      rcases Nat.eq_zero_or_pos k with h0 | h0
      · subst h0; simp [cl]
      · have := ih.2 h0; omega
theorem cl_link (xs : List Int) (k : Nat) (hk : 0 < k) : ∀ j, j < (cl xs k).1.length → (cl xs k).1[j]? = some ((stK xs k)[j]?.getD 0, (stK xs k)[j + 1]?.getD 0) := by
  induction k with
  | zero => omega
  | succ k ih =>
    rcases Nat.eq_zero_or_pos k with h0 | h0
    · subst h0; intro j hj; simp [cl] at hj
    · cases hb : begB (xs[k - 1]?.getD 0) (xs[k]?.getD 0) with
      | false => rw [cl_no xs k hb, stK_no xs k h0 hb]; exact ih h0
      | true =>
        rw [stK_yes xs k h0 hb, cl_yes xs k h0 hb]
        intro j hj
        simp only [List.length_append, List.length_cons, List.length_nil] at hj
        have hl := stK_len' xs k h0
        rcases Nat.lt_or_ge j (cl xs k).1.length with hlt | hge
        · rw [List.getElem?_append_left hlt, ih h0 j hlt, List.getElem?_append_left (by omega), List.getElem?_append_left (by omega)]
        · obtain rfl : j = (cl xs k).1.length := by omega
          rw [List.getElem?_append_right (Nat.le_refl _), List.getElem?_append_left (by omega), List.getElem?_append_right (by omega), hl]
          have e : (stK xs k)[(cl xs k).1.length]? = some (cl xs k).2 := by
            simp only [stK, if_neg (Nat.pos_iff_ne_zero.1 h0)]
            rw [List.getElem?_append_right (by simp)]
            simp
          rw [e]
          simp
theorem stK_zero (xs : List Int) (k : Nat) (hk : 0 < k) : (stK xs k)[0]? = some 0 := by
  induction k with
  | zero => omega
  | succ k ih =>
    rcases Nat.eq_zero_or_pos k with h0 | h0
    · subst h0; rw [stK_one]; simp [stK]
    · cases hb : begB (xs[k - 1]?.getD 0) (xs[k]?.getD 0) with
      | false => rw [stK_no xs k h0 hb]; exact ih h0
      | true =>
        rw [stK_yes xs k h0 hb, List.getElem?_append_left (by have := stK_len' xs k h0; omega)]
        exact ih h0
theorem stL_len (xs : List Int) : (stL xs).length = (pairs xs).length + 1 := by
  unfold stL pairs
  rcases Nat.eq_zero_or_pos xs.length with h0 | h0
  · rw [if_pos h0, h0]; simp [stK]
  · rw [if_neg (Nat.pos_iff_ne_zero.1 h0)]
    have := stK_len' xs xs.length h0
    simp; omega
theorem sAt_zero (xs : List Int) : sAt xs 0 = 0 := by
  unfold sAt stL
  rcases Nat.eq_zero_or_pos xs.length with h0 | h0
  · rw [h0]; simp [stK]
  · rw [List.getElem?_append_left (by have := stK_len' xs xs.length h0; omega), stK_zero xs _ h0]; rfl
theorem sAt_last (xs : List Int) : sAt xs (pairs xs).length = xs.length := by
  have h := stL_len xs
  unfold sAt stL at *
  simp only [List.length_append, List.length_cons, List.length_nil] at h
  rw [List.getElem?_append_right (by omega), show (pairs xs).length - (stK xs xs.length).length = 0 by omega]
  rfl
theorem pairs_at (xs : List Int) (j : Nat) (hj : j < (pairs xs).length) : (pairs xs)[j]? = some (sAt xs j, sAt xs (j + 1)) := by
  rcases Nat.eq_zero_or_pos xs.length with h0 | h0
  · simp [pairs, h0] at hj
  · have hl := stK_len' xs xs.length h0
    unfold sAt stL
    unfold pairs at hj ⊢
    rw [if_neg (Nat.pos_iff_ne_zero.1 h0)] at hj ⊢
    simp only [List.length_append, List.length_cons, List.length_nil] at hj
    rcases Nat.lt_or_ge j (cl xs xs.length).1.length with hlt | hge
    · rw [List.getElem?_append_left hlt, cl_link xs _ h0 j hlt, List.getElem?_append_left (by omega), List.getElem?_append_left (by omega)]
    · obtain rfl : j = (cl xs xs.length).1.length := by omega
      rw [List.getElem?_append_right (Nat.le_refl _), List.getElem?_append_left (by omega), List.getElem?_append_right (by omega), hl]
      have e : (stK xs xs.length)[(cl xs xs.length).1.length]? = some (cl xs xs.length).2 := by
        simp only [stK, if_neg (Nat.pos_iff_ne_zero.1 h0)]
        rw [List.getElem?_append_right (by simp)]
        simp
      rw [e]
      simp
theorem pairs_all (xs : List Int) : ∀ x ∈ pairs xs, x.1 < x.2 ∧ x.2 ≤ xs.length := by
  unfold pairs
  split
  · simp
  · rename_i h
    have hc := cl_all xs xs.length
    intro x hx
    rcases List.mem_append.1 hx with hx | hx
    · exact hc.1 x hx
    · obtain rfl : x = ((cl xs xs.length).2, xs.length) := by simpa using hx
      exact ⟨hc.2 (by omega), Nat.le_refl _⟩
theorem sAt_lt (xs : List Int) (j : Nat) (hj : j < (pairs xs).length) : sAt xs j < sAt xs (j + 1) ∧ sAt xs (j + 1) ≤ xs.length :=
  pairs_all xs _ (List.mem_of_getElem? (pairs_at xs j hj))
theorem sAt_le (xs : List Int) (j : Nat) : sAt xs j ≤ xs.length := by
  rcases Nat.eq_zero_or_pos j with h0 | h0
  · subst h0; rw [sAt_zero]; omega
  · rcases Nat.lt_or_ge (j - 1) (pairs xs).length with h | h
    · have := (sAt_lt xs (j - 1) h).2; rwa [Nat.sub_add_cancel h0] at this
    · unfold sAt; rw [List.getElem?_eq_none (by rw [stL_len]; omega)]; simp
theorem take_cat (xs : List Int) (a b : Nat) (h : a ≤ b) : xs.take b = xs.take a ++ (xs.drop a).take (b - a) := by
  have := List.take_append_drop a (xs.take b)
  rw [List.take_take, List.drop_take, Nat.min_eq_left h] at this
  exact this.symm
theorem tAt_succ (xs : List Int) (j : Nat) (hj : j < (pairs xs).length) : tAt xs (j + 1) = tAt xs j + textZ (piece xs (sAt xs j, sAt xs (j + 1))) := by
  unfold tAt piece
  rw [take_cat xs (sAt xs j) (sAt xs (j + 1)) (Nat.le_of_lt (sAt_lt xs j hj).1), textZ_append]
theorem nOf_take (xs : List Int) (j : Nat) (hj : j ≤ (pairs xs).length) : nOf ((pairs xs).take j) = sAt xs j ∧ usedOf xs ((pairs xs).take j) = tAt xs j := by
  induction j with
  | zero => rw [sAt_zero]; simp [nOf, usedOf, tAt, sAt_zero, textZ]
  | succ j ih =>
    have hlt : j < (pairs xs).length := hj
    have e : (pairs xs).take (j + 1) = (pairs xs).take j ++ [(sAt xs j, sAt xs (j + 1))] := by
      rw [List.take_add_one, pairs_at xs j hlt]; rfl
    obtain ⟨h1, h2⟩ := ih (by omega)
    rw [e, nOf_snoc, usedOf_snoc, h1, h2, tAt_succ xs j hlt]
    have := (sAt_lt xs j hlt).1
    exact ⟨by show sAt xs j + (sAt xs (j + 1) - sAt xs j) = _; omega, rfl⟩
theorem tAt_mono (xs : List Int) (i d : Nat) (h : i + d ≤ (pairs xs).length) : tAt xs i ≤ tAt xs (i + d) := by
  induction d with
  | zero => exact Int.le_refl _
  | succ d ih =>
    have h1 := ih (by omega)
    have h2 := tAt_succ xs (i + d) (by omega)
    have h3 := (piece_bd xs (sAt xs (i + d), sAt xs (i + d + 1))).1
    rw [← Nat.add_assoc]
    omega
theorem tAt_zero (xs : List Int) : tAt xs 0 = 0 := by unfold tAt; rw [sAt_zero]; rfl

/-- The greatest number of clusters that fit. -/
def Best (cols : Int) (xs : List Int) (j : Nat) : Prop := j ≤ (pairs xs).length ∧ (∀ i, i ≤ j → tAt xs i ≤ cols) ∧ (∀ i, j < i → i ≤ (pairs xs).length → cols < tAt xs i)
theorem best_ex (cols : Int) (hc : 0 ≤ cols) (xs : List Int) : ∃ j, Best cols xs j := by
  suffices h : ∀ d, d ≤ (pairs xs).length → ∃ j, j ≤ d ∧ (∀ i, i ≤ j → tAt xs i ≤ cols) ∧ (∀ i, j < i → i ≤ d → cols < tAt xs i) from h _ (Nat.le_refl _)
  intro d
  induction d with
  | zero => exact fun _ => ⟨0, Nat.le_refl _, fun i hi => by obtain rfl : i = 0 := by omega
                                                             rw [tAt_zero]; exact hc, fun i h1 h2 => by omega⟩
  | succ d ih =>
    intro hd
    obtain ⟨j, hj, h1, h2⟩ := ih (by omega)
    by_cases hle : tAt xs (d + 1) ≤ cols
    · refine ⟨d + 1, Nat.le_refl _, fun i hi => ?_, fun i h3 h4 => by omega⟩
      have := tAt_mono xs i (d + 1 - i) (by omega)
      rw [show i + (d + 1 - i) = d + 1 by omega] at this
      omega
    · refine ⟨j, by omega, h1, fun i h3 h4 => ?_⟩
      rcases Nat.lt_or_ge d i with h5 | h5
      · obtain rfl : i = d + 1 := by omega
        omega
      · exact h2 i h3 h5
theorem prefix_take {α : Type} {q l : List α} (h : q <+: l) : q = l.take q.length ∧ q.length ≤ l.length :=
  ⟨List.prefix_iff_eq_take.1 h, h.length_le⟩
theorem fit_best {cols : Int} {xs : List Int} {N j : Nat} (h : FitIs cols xs N) (hb : Best cols xs j) : N = sAt xs j := by
  obtain ⟨q, hq, rfl, hu, hr⟩ := h
  obtain ⟨hqt, hql⟩ := prefix_take hq
  obtain ⟨hjl, hj1, hj2⟩ := hb
  have hn := nOf_take xs q.length hql
  rw [← hqt] at hn
  have hle : q.length ≤ j := by
    rcases Nat.lt_or_ge j q.length with hlt | hge
    · have := hj2 q.length hlt hql
      rcases hu with hu | hu
      · omega
      · rw [hu] at hlt; simp at hlt
    · exact hge
  have hge : j ≤ q.length := by
    rcases Nat.lt_or_ge q.length j with hlt | hge
    · rcases hr with hr | ⟨x, hx, hlt'⟩
      · rw [hr] at hlt; omega
      · obtain ⟨hxt, hxl⟩ := prefix_take hx
        simp only [List.length_append, List.length_cons, List.length_nil] at hxt hxl
        have := hj1 (q.length + 1) hlt
        rw [hxt, (nOf_take xs (q.length + 1) hxl).2] at hlt'
        omega
    · exact hge
  rw [hn.1, Nat.le_antisymm hle hge]
theorem fit_neg {cols : Int} {xs : List Int} {N : Nat} (h : FitIs cols xs N) (hc : cols < 0) : N = 0 := by
  obtain ⟨q, hq, rfl, hu, _⟩ := h
  rcases hu with hu | hu
  · have := (usedOf_bd xs q).1; omega
  · rw [hu]; rfl

end Go.Proofs.YtacmldggdacdpaaDoor
