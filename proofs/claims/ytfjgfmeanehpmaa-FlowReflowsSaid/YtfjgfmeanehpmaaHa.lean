/- Rows that go on, plain: what flows, and what a flow is laid into. -/
import Derived.Test.YtfjgfmeanehpmaaYj
import Derived.Test.YtfjgfmeanehpmaaGd
namespace Go.Proofs.Ytfjgfmeanehpmaa

/-- A row: its cells, and whether it goes on from the one ahead. -/
structure Rw where
  c : List CC
  k : Bool
def padF : CC := ⟨0, ⟨#[]⟩, 3, 0, 0, 0, 0, 0⟩
def notPad (x : CC) : Bool := !(x.h == 3)
def flat : List Rw → List CC
  | [] => []
  | r :: L => r.c.filter notPad ++ flat L
def flowL (L : List Rw) : List CC := (mendL (flat L)).take (usedL (mendL (flat L)))
def unpad (l : List CC) : List CC := l.map fun x => if x.h = 3 then bare x else x
theorem unpad_len (l : List CC) : (unpad l).length = l.length := by unfold unpad; simp
/-- A flow laid into rows of n cells; the last row so far has these cells. -/
def lay (n : Nat) (k : Bool) (cur : List CC) : List CC → List Rw
  | [] => [⟨cur ++ List.replicate (n - cur.length) CC.zero, k⟩]
  | x :: t => if cur.length + 1 = n ∧ x.h = 1 then ⟨cur ++ [padF], k⟩ :: lay n true [x] t
    else if cur.length = n then ⟨cur, k⟩ :: lay n true [x] t
    else lay n k (cur ++ [x]) t
def splitL (n : Nat) (l : List CC) : List Rw := lay n false [] (mendL (unpad l))

theorem flat_app (L M : List Rw) : flat (L ++ M) = flat L ++ flat M := by
  induction L with
  | nil => rfl
  | cons r L ih => simp [flat, ih]
theorem filter_self {l : List CC} (h : ∀ x ∈ l, notPad x = true) : l.filter notPad = l := List.filter_eq_self.2 h
theorem notPad_zero : notPad CC.zero = true := rfl
theorem notPad_pad : notPad padF = false := rfl
theorem filter_zeros (z : Nat) : (List.replicate z CC.zero).filter notPad = List.replicate z CC.zero := filter_self fun x hx => by
  rw [(List.mem_replicate.1 hx).2]; rfl
/-- What flows of what was laid: what was laid, and what is empty behind it. -/
theorem flat_lay (n : Nat) : ∀ (l : List CC) (k : Bool) (cur : List CC), (∀ x ∈ cur, notPad x = true) → (∀ x ∈ l, notPad x = true) → ∃ z, flat (lay n k cur l) = cur ++ l ++ List.replicate z CC.zero
  | [], k, cur, hc, _ => ⟨n - cur.length, by simp [lay, flat, List.filter_append, filter_self hc, filter_zeros]⟩
  | x :: t, k, cur, hc, hl => by
    have hx : notPad x = true := hl x (by simp)
    have ht : ∀ y ∈ t, notPad y = true := fun y hy => hl y (List.mem_cons_of_mem _ hy)
    have h1 : ∀ y ∈ [x], notPad y = true := fun y hy => by simp at hy; rw [hy]; exact hx
    unfold lay
    split
    · obtain ⟨z, hz⟩ := flat_lay n t true [x] h1 ht
      exact ⟨z, by simp [flat, hz, List.filter_append, filter_self hc, notPad_pad]⟩
    · split
      · obtain ⟨z, hz⟩ := flat_lay n t true [x] h1 ht
        exact ⟨z, by simp [flat, hz, filter_self hc]⟩
      · obtain ⟨z, hz⟩ := flat_lay n t k (cur ++ [x]) (fun y hy => by rcases List.mem_append.1 hy with h | h; exact hc y h; exact h1 y h) ht
        exact ⟨z, by simp [hz]⟩
/-- How many rows there are at the most; each has n cells. -/
theorem lay_len (n : Nat) : ∀ (l : List CC) (k : Bool) (cur : List CC), 0 < (lay n k cur l).length ∧ (lay n k cur l).length ≤ l.length + 1
  | [], k, cur => by simp [lay]
  | x :: t, k, cur => by
    unfold lay
    split
    · have := lay_len n t true [x]; simp; omega
    · split
      · have := lay_len n t true [x]; simp; omega
      · have := lay_len n t k (cur ++ [x]); simp; omega
theorem lay_cols (n : Nat) (hn : 2 ≤ n) : ∀ (l : List CC) (k : Bool) (cur : List CC), cur.length ≤ n → ∀ r ∈ lay n k cur l, r.c.length = n
  | [], k, cur, hc, r, hr => by
    simp [lay] at hr
    subst hr
    simp; omega
  | x :: t, k, cur, hc, r, hr => by
    unfold lay at hr
    split at hr
    · rename_i h
      rcases List.mem_cons.1 hr with rfl | hr
      · simp; omega
      · exact lay_cols n hn t true [x] (by simp; omega) r hr
    · split at hr
      · rename_i h
        rcases List.mem_cons.1 hr with rfl | hr
        · exact h
        · exact lay_cols n hn t true [x] (by simp; omega) r hr
      · exact lay_cols n hn t k (cur ++ [x]) (by simp; omega) r hr
theorem lay_conts (n : Nat) : ∀ (l : List CC) (k : Bool) (cur : List CC), ∃ c T, lay n k cur l = ⟨c, k⟩ :: T ∧ ∀ r ∈ T, r.k = true
  | [], k, cur => ⟨_, [], rfl, fun r h => by cases h⟩
  | x :: t, k, cur => by
    unfold lay
    split
    · obtain ⟨c, T, h1, h2⟩ := lay_conts n t true [x]
      exact ⟨_, _, rfl, fun r hr => by rw [h1] at hr; rcases List.mem_cons.1 hr with rfl | hr; rfl; exact h2 r hr⟩
    · split
      · obtain ⟨c, T, h1, h2⟩ := lay_conts n t true [x]
        exact ⟨_, _, rfl, fun r hr => by rw [h1] at hr; rcases List.mem_cons.1 hr with rfl | hr; rfl; exact h2 r hr⟩
      · exact lay_conts n t k (cur ++ [x])
/-- A row that begins takes what the program cuts. -/
def cutR1 (n : Nat) (f : List CC) : List CC := if n ≤ f.length ∧ (Ac f (n - 1)).h = 1 then f.take (n - 1) ++ [padF] else f.take n ++ List.replicate (n - f.length) CC.zero
def cutR2 (n : Nat) (f : List CC) : List CC := if n ≤ f.length ∧ (Ac f (n - 1)).h = 1 then f.drop (n - 1) else f.drop n
theorem lay_cut' (n : Nat) (hn : 2 ≤ n) : ∀ (f : List CC) (k : Bool) (cur : List CC) (m : Nat), cur.length + m = n →
    lay n k cur f = (if 1 ≤ m ∧ m ≤ f.length ∧ (Ac f (m - 1)).h = 1 then ⟨cur ++ (f.take (m - 1) ++ [padF]), k⟩ :: lay n true [] (f.drop (m - 1)) else ⟨cur ++ (f.take m ++ List.replicate (m - f.length) CC.zero), k⟩ :: (if f.drop m = [] then [] else lay n true [] (f.drop m)))
  | [], k, cur, m, hm => by
    have e : n - cur.length = m := by omega
    simp [lay, e]
    intro h1 h2; omega
  | x :: t, k, cur, m, hm => by
    have e0 : lay n true [] (x :: t) = lay n true [x] t := by
      conv => lhs; unfold lay
      rw [if_neg (by simp; omega), if_neg (by simp; omega)]
      rfl
    match m, hm with
    | 0, hm =>
      conv => lhs; unfold lay
      rw [if_neg (by omega), if_pos (by omega), if_neg (by omega)]
      simp [e0]
    | 1, hm =>
      by_cases hx : x.h = 1
      · conv => lhs; unfold lay
        rw [if_pos ⟨by omega, hx⟩, if_pos ⟨by omega, by simp, hx⟩]
        simp [e0]
      · conv => lhs; unfold lay
        rw [if_neg (fun h => hx h.2), if_neg (by omega), if_neg (fun h => hx h.2.2), lay_cut' n hn t k (cur ++ [x]) 0 (by simp; omega), if_neg (by omega)]
        simp
    | m + 2, hm =>
      conv => lhs; unfold lay
      rw [if_neg (by omega), if_neg (by omega), lay_cut' n hn t k (cur ++ [x]) (m + 1) (by simp; omega)]
      have ea : Ac (x :: t) (m + 2 - 1) = Ac t (m + 1 - 1) := rfl
      rw [ea]
      by_cases hh : 1 ≤ m + 1 ∧ m + 1 ≤ t.length ∧ (Ac t (m + 1 - 1)).h = 1
      · rw [if_pos hh, if_pos ⟨by omega, by simp; omega, hh.2.2⟩]
        simp
      · rw [if_neg hh, if_neg (show ¬ (1 ≤ m + 2 ∧ m + 2 ≤ (x :: t).length ∧ (Ac t (m + 1 - 1)).h = 1) from fun h => hh ⟨by omega, by have := h.2.1; simp at this; omega, h.2.2⟩)]
        simp
/-- A row is cut, and what is left is laid into rows that go on. -/
theorem lay_cut (n : Nat) (hn : 2 ≤ n) (f : List CC) (k : Bool) : lay n k [] f = ⟨cutR1 n f, k⟩ :: (if cutR2 n f = [] then [] else lay n true [] (cutR2 n f)) := by
  rw [lay_cut' n hn f k [] n (by simp)]
  unfold cutR1 cutR2
  by_cases h : n ≤ f.length ∧ (Ac f (n - 1)).h = 1
  · rw [if_pos ⟨by omega, h⟩, if_pos h, if_pos h, if_neg (by
      intro e
      have := congrArg List.length e
      simp at this
      omega)]
    rfl
  · rw [if_neg (fun h' => h h'.2), if_neg h, if_neg h]
    rfl
theorem cutR2_lt (n : Nat) (hn : 2 ≤ n) (f : List CC) (h : f ≠ []) : (cutR2 n f).length < f.length := by
  have := List.length_pos_iff.2 h
  unfold cutR2
  split <;> simp <;> omega

/-! Mended rows: ahead of what is empty; without what is empty at the end. -/
theorem mend_noPad : ∀ l : List CC, (∀ x ∈ l, notPad x = true) → ∀ x ∈ mendL l, notPad x = true
  | [], _, x, hx => by cases hx
  | [x], h, y, hy => by
    have hx := h x (by simp)
    have hy : y = if x.h = 0 ∨ x.h = 3 then x else bare x := by simpa [mendL] using hy
    rw [hy]
    split
    · exact hx
    · rfl
  | x :: y :: t, h, z, hz => by
    have hx := h x (by simp)
    have hy := h y (by simp)
    rw [mendL_duo] at hz
    split at hz
    · rcases List.mem_cons.1 hz with rfl | hz
      · exact hx
      · rcases List.mem_cons.1 hz with rfl | hz
        · exact hy
        · exact mend_noPad t (fun w hw => h w (by simp [hw])) z hz
    · rcases List.mem_cons.1 hz with rfl | hz
      · split
        · exact hx
        · rfl
      · exact mend_noPad (y :: t) (fun w hw => h w (List.mem_cons_of_mem _ hw)) z hz
theorem bare_h (x : CC) : (bare x).h = 0 := rfl
/-- A mended row's head stands alone: it is no half. -/
theorem mend_head0 {x y : CC} {t : List CC} (hp : ¬ pairB x y = true) (h : mendL (x :: y :: t) = x :: y :: t) : x.h = 0 ∧ mendL (y :: t) = y :: t := by
  rw [mendL_duo, if_neg hp] at h
  injection h with h1 h2
  refine ⟨?_, h2⟩
  rw [← h1]
  split
  · assumption
  · rfl
theorem mend_pair2 {x y : CC} {t : List CC} (hp : pairB x y = true) (h : mendL (x :: y :: t) = x :: y :: t) : mendL t = t := by
  rw [mendL_duo, if_pos hp] at h
  injection h with h1 h2
  injection h2 with h2 h3
theorem zeros_mended (z : Nat) : mendL (List.replicate z CC.zero) = List.replicate z CC.zero := by
  induction z with
  | zero => rfl
  | succ z ih =>
    match z, ih with
    | 0, _ => rfl
    | z + 1, ih =>
      show mendL (CC.zero :: CC.zero :: List.replicate z CC.zero) = _
      rw [mendL_duo, if_neg (by decide), if_pos (show CC.zero.h = 0 from rfl)]
      show CC.zero :: mendL (List.replicate (z + 1) CC.zero) = _
      rw [ih]
      rfl
theorem pair_zero (x : CC) : ¬ pairB x CC.zero = true := fun h => by
  have := pairB_is h
  have := congrArg CC.h this
  simp [CC.zero] at this
theorem mend_zeros (z : Nat) : ∀ l : List CC, mendL l = l → (∀ x ∈ l, notPad x = true) → mendL (l ++ List.replicate z CC.zero) = l ++ List.replicate z CC.zero
  | [], _, _ => by simpa using zeros_mended z
  | [x], h, hp => by
    have hx : x.h = 0 := by
      have h1 : (if x.h = 0 ∨ x.h = 3 then x else bare x) = x := by simpa [mendL] using h
      by_cases h0 : x.h = 0 ∨ x.h = 3
      · rcases h0 with h0 | h0
        · exact h0
        · have := hp x (by simp)
          simp [notPad, h0] at this
      · rw [if_neg h0] at h1
        rw [← h1]
        rfl
    match z with
    | 0 => simpa using h
    | z + 1 =>
      show mendL (x :: CC.zero :: List.replicate z CC.zero) = x :: List.replicate (z + 1) CC.zero
      rw [mendL_duo, if_neg (pair_zero x), if_pos hx]
      show x :: mendL (List.replicate (z + 1) CC.zero) = _
      rw [zeros_mended]
  | x :: y :: t, h, hp => by
    by_cases hq : pairB x y = true
    · have ih := mend_zeros z t (mend_pair2 hq h) (fun w hw => hp w (by simp [hw]))
      show mendL (x :: y :: (t ++ List.replicate z CC.zero)) = x :: y :: (t ++ List.replicate z CC.zero)
      rw [mendL_duo, if_pos hq, ih]
    · obtain ⟨h0, h1⟩ := mend_head0 hq h
      have ih := mend_zeros z (y :: t) h1 (fun w hw => hp w (List.mem_cons_of_mem _ hw))
      show mendL (x :: y :: (t ++ List.replicate z CC.zero)) = x :: y :: (t ++ List.replicate z CC.zero)
      rw [mendL_duo, if_neg hq, if_pos h0]
      show x :: mendL (y :: t ++ List.replicate z CC.zero) = _
      rw [ih]
      rfl
/-- A part of a mended row that ends with a cell in which something was written, ahead of such in which nothing was. -/
theorem mend_part (s : List CC) (hs : ∀ x ∈ s, x.r = 0) : ∀ l : List CC, mendL (l ++ s) = l ++ s → (∀ x ∈ l, notPad x = true) → (∀ h : l ≠ [], (l.getLast h).r ≠ 0) → mendL l = l
  | [], _, _, _ => rfl
  | [x], h, hp, hl => by
    have hx0 : x.r ≠ 0 := hl (by simp)
    have key : x.h = 0 := by
      match s, hs, h with
      | [], _, h =>
        have h1 : (if x.h = 0 ∨ x.h = 3 then x else bare x) = x := by simpa [mendL] using h
        by_cases h0 : x.h = 0 ∨ x.h = 3
        · rcases h0 with h0 | h0
          · exact h0
          · have := hp x (by simp)
            simp [notPad, h0] at this
        · rw [if_neg h0] at h1
          rw [← h1]
          rfl
      | y :: s, hs, h =>
        have hy : y.r = 0 := hs y (by simp)
        refine (mend_head0 (t := s) (fun hq => ?_) h).1
        have := congrArg CC.r (pairB_is hq)
        simp at this
        omega
    show [if x.h = 0 ∨ x.h = 3 then x else bare x] = [x]
    rw [if_pos (.inl key)]
  | x :: y :: t, h, hp, hl => by
    have h' : mendL (x :: y :: (t ++ s)) = x :: y :: (t ++ s) := h
    by_cases hq : pairB x y = true
    · have ih := mend_part s hs t (mend_pair2 hq h') (fun w hw => hp w (by simp [hw])) (fun hne => by
        have := hl (by simp)
        rwa [List.getLast_cons (by simp), List.getLast_cons hne] at this)
      rw [mendL_duo, if_pos hq, ih]
    · obtain ⟨h0, h1⟩ := mend_head0 hq h'
      have ih := mend_part s hs (y :: t) h1 (fun w hw => hp w (List.mem_cons_of_mem _ hw)) (fun hne => by
        have := hl (by simp)
        rwa [List.getLast_cons hne] at this)
      rw [mendL_duo, if_neg hq, if_pos h0, ih]

/-! How much was written. -/
theorem usedTo_app (l s : List CC) : ∀ i, i ≤ l.length → usedTo (l ++ s) i = usedTo l i
  | 0, _ => rfl
  | i + 1, h => by
    have e : Ac (l ++ s) i = Ac l i := by unfold Ac; rw [List.getElem?_append_left (by omega)]
    unfold usedTo
    rw [e, usedTo_app l s i (by omega)]
theorem usedTo_zeros (l s : List CC) (hs : ∀ x ∈ s, x.r = 0) : ∀ k, k ≤ s.length → usedTo (l ++ s) (l.length + k) = usedTo l l.length
  | 0, _ => usedTo_app l s _ (Nat.le_refl _)
  | k + 1, h => by
    have e : (Ac (l ++ s) (l.length + k)).r = 0 := by
      unfold Ac
      rw [List.getElem?_append_right (by omega), show l.length + k - l.length = k by omega, List.getElem?_eq_getElem (by omega)]
      exact hs _ (List.getElem_mem _)
    show (if (Ac (l ++ s) (l.length + k)).r = 0 then usedTo (l ++ s) (l.length + k) else l.length + k + 1) = _
    rw [if_pos e, usedTo_zeros l s hs k (by omega)]
theorem used_zeros (l s : List CC) (hs : ∀ x ∈ s, x.r = 0) : usedL (l ++ s) = usedL l := by
  unfold usedL
  rw [List.length_append]
  exact usedTo_zeros l s hs _ (Nat.le_refl _)
theorem used_le (l : List CC) : usedL l ≤ l.length := usedTo_le l _
theorem usedTo_last (l : List CC) : ∀ i, usedTo l i = 0 ∨ ∃ j, usedTo l i = j + 1 ∧ j < i ∧ (Ac l j).r ≠ 0
  | 0 => .inl rfl
  | i + 1 => by
    unfold usedTo
    split
    · rcases usedTo_last l i with h | ⟨j, h1, h2, h3⟩
      · exact .inl h
      · exact .inr ⟨j, h1, by omega, h3⟩
    · rename_i h
      exact .inr ⟨i, rfl, by omega, h⟩
theorem usedTo_rest (l : List CC) : ∀ i j, usedTo l i ≤ j → j < i → (Ac l j).r = 0
  | 0, j, _, h => by omega
  | i + 1, j, h1, h2 => by
    unfold usedTo at h1
    split at h1
    · rename_i h
      rcases (by omega : j < i ∨ j = i) with h3 | rfl
      · exact usedTo_rest l i j h1 h3
      · exact h
    · omega
theorem take_used_last (l : List CC) (h : l.take (usedL l) ≠ []) : ((l.take (usedL l)).getLast h).r ≠ 0 := by
  have hle := used_le l
  have hlen : (l.take (usedL l)).length = usedL l := by simp; omega
  have hpos := List.length_pos_iff.2 h
  rcases usedTo_last l l.length with h0 | ⟨j, h1, h2, h3⟩
  · have h0 : usedL l = 0 := h0
    omega
  · have h1 : usedL l = j + 1 := h1
    rw [List.getLast_eq_getElem]
    simp only [List.getElem_take]
    have e : (Ac l j) = l[j] := by unfold Ac; rw [List.getElem?_eq_getElem h2]; rfl
    rw [e] at h3
    have hi : (l.take (usedL l)).length - 1 = j := by omega
    simp only [hi]
    exact h3
theorem drop_used (l : List CC) : ∀ x ∈ l.drop (usedL l), x.r = 0 := fun x hx => by
  obtain ⟨i, hi, rfl⟩ := List.getElem_of_mem hx
  rw [List.getElem_drop]
  have hi' : usedL l + i < l.length := by simp at hi; omega
  have := usedTo_rest l l.length (usedL l + i) (by show usedL l ≤ _; omega) hi'
  have e : Ac l (usedL l + i) = l[usedL l + i] := by unfold Ac; rw [List.getElem?_eq_getElem hi']; rfl
  rwa [e] at this
/-- A mended row without Pads, without what is empty at its end, is mended. -/
theorem mend_used (l : List CC) (h : mendL l = l) (hp : ∀ x ∈ l, notPad x = true) : mendL (l.take (usedL l)) = l.take (usedL l) :=
  mend_part (l.drop (usedL l)) (drop_used l) _ (by rw [List.take_append_drop]; exact h) (fun x hx => hp x (List.mem_of_mem_take hx)) (take_used_last l)
theorem used_used (l : List CC) : usedL (l.take (usedL l)) = usedL l := by
  have h := used_zeros (l.take (usedL l)) (l.drop (usedL l)) (drop_used l)
  rw [List.take_append_drop] at h
  exact h.symm
theorem unpad_noPad {l : List CC} (h : ∀ x ∈ l, notPad x = true) : unpad l = l := by
  unfold unpad
  conv => rhs; rw [← List.map_id l]
  apply List.map_congr_left
  intro x hx
  have := h x hx
  rw [if_neg (by intro e; simp [notPad, e] at this)]
  rfl
theorem zeros_r (z : Nat) : ∀ x ∈ List.replicate z CC.zero, x.r = 0 := fun x hx => by rw [(List.mem_replicate.1 hx).2]; rfl
/-- The flow of what a flow without Pads is split into. -/
theorem flow_split (n : Nat) (l : List CC) (hp : ∀ x ∈ l, notPad x = true) : flowL (splitL n l) = (mendL l).take (usedL (mendL l)) := by
  have hm := mend_noPad l hp
  obtain ⟨z, hz⟩ := flat_lay n (mendL l) false [] (fun x hx => by cases hx) hm
  unfold flowL splitL
  rw [unpad_noPad hp, hz, List.nil_append, mend_zeros z _ (mendL_idem l) hm, used_zeros _ _ (zeros_r z), List.take_append_of_le_length (used_le _)]
theorem flat_noPad : ∀ (L : List Rw), ∀ x ∈ flat L, notPad x = true
  | [], x, hx => by cases hx
  | r :: L, x, hx => by
    rcases List.mem_append.1 hx with h | h
    · exact (List.mem_filter.1 h).2
    · exact flat_noPad L x h
theorem flow_noPad (L : List Rw) : ∀ x ∈ flowL L, notPad x = true := fun x hx =>
  mend_noPad _ (flat_noPad L) x (List.mem_of_mem_take hx)
theorem flow_mended (L : List Rw) : mendL (flowL L) = flowL L := mend_used _ (mendL_idem _) (mend_noPad _ (flat_noPad L))
/-- A flow that is split, and flows again, is that flow. -/
theorem flow_again (n : Nat) (L : List Rw) : flowL (splitL n (flowL L)) = flowL L := by
  rw [flow_split n _ (flow_noPad L), flow_mended]
  have h := used_used (mendL (flat L))
  show List.take (usedL (flowL L)) (flowL L) = flowL L
  have e : usedL (flowL L) = (flowL L).length := by
    show usedL ((mendL (flat L)).take (usedL (mendL (flat L)))) = _
    rw [h]
    unfold flowL
    rw [List.length_take, Nat.min_eq_left (used_le _)]
  rw [e, List.take_length]
theorem flat_len : ∀ L : List Rw, (flat L).length ≤ (L.map fun r => r.c.length).sum
  | [] => Nat.le_refl _
  | r :: L => by
    have := flat_len L
    have h2 := List.length_filter_le notPad r.c
    simp [flat]
    omega
end Go.Proofs.Ytfjgfmeanehpmaa
