/- Plain: the best one of a list, the rows rising, each once, and steps on them. -/
import Derived.Test.YtfgnlohnalgnpaaKi
import Derived.Lib.SlicesCompact
namespace Go.Proofs.Ytfgnlohnalgnpaa
open Go.RowKit

/-- One more is looked at: it is the best one, if it is meant and better. -/
def stp (m : Int → Bool) (b : Int → Int → Bool) (s : Int × Bool) (x : Int) : Int × Bool := if m x then (if !s.2 then (x, true) else if b x s.1 then (x, true) else s) else s
def bestV (m : Int → Bool) (b : Int → Int → Bool) (l : List Int) : Int × Bool := l.foldl (stp m b) (0, false)
theorem best_snoc (m : Int → Bool) (b : Int → Int → Bool) (l : List Int) (k : Nat) (h : k < l.length) : bestV m b (l.take (k + 1)) = stp m b (bestV m b (l.take k)) (l[k]?.getD 0) := by
  rw [take_snocI l k h]
  simp [bestV]
theorem best_all (m : Int → Bool) (b : Int → Int → Bool) (l : List Int) (k : Nat) (h : l.length ≤ k) : bestV m b (l.take k) = bestV m b l := by rw [List.take_of_length_le h]
def nextV (at_ : Int) (l : List Int) : Int × Bool := bestV (fun x => decide (at_ < x)) (fun a b => decide (a < b)) l
def aheadV (at_ : Int) (l : List Int) : Int × Bool := bestV (fun x => decide (x < at_)) (fun a b => decide (b < a)) l
/-- How far two rows are from each other. -/
def farI (a b : Int) : Nat := (a - b).natAbs
def nearB (at_ : Int) (a b : Int) : Bool := decide (farI a at_ < farI b at_) || (decide (farI a at_ = farI b at_) && decide (a < b))
def nearV (at_ : Int) (l : List Int) : Int × Bool := bestV (fun _ => true) (nearB at_) l

/-- Of a list the next one above. -/
def NextIs (at_ : Int) (l : List Int) (s : Int × Bool) : Prop := (s.2 = true ∧ s.1 ∈ l ∧ at_ < s.1 ∧ ∀ y ∈ l, at_ < y → s.1 ≤ y) ∨ (s = (0, false) ∧ ∀ y ∈ l, y ≤ at_)
theorem next_fold (at_ : Int) : ∀ (l p : List Int) (s : Int × Bool), NextIs at_ p s → NextIs at_ (p ++ l) (l.foldl (stp (fun x => decide (at_ < x)) (fun a b => decide (a < b))) s)
  | [], p, s, h => by simpa using h
  | x :: l, p, s, h => by
    rw [List.foldl_cons, show p ++ x :: l = (p ++ [x]) ++ l by simp]
    refine next_fold at_ l (p ++ [x]) _ ?_
    obtain ⟨v, f⟩ := s
    rcases h with ⟨h1, h2, h3, h4⟩ | ⟨h1, h2⟩
    · simp only at h1 h2 h3 h4
      subst h1
      unfold stp
      by_cases hx : at_ < x
      · simp only [hx, decide_true, if_true, Bool.not_true, Bool.false_eq_true, if_false]
        by_cases hv : x < v
        · simp only [hv, decide_true, if_true]
          refine .inl ⟨rfl, by simp, hx, fun y hy hay => ?_⟩
          rcases List.mem_append.1 hy with hy | hy
          · have := h4 y hy hay; omega
          · simp at hy; omega
        · simp only [hv, decide_false, Bool.false_eq_true, if_false]
          refine .inl ⟨rfl, List.mem_append.2 (.inl h2), h3, fun y hy hay => ?_⟩
          rcases List.mem_append.1 hy with hy | hy
          · exact h4 y hy hay
          · simp at hy; omega
      · simp only [hx, decide_false, Bool.false_eq_true, if_false]
        refine .inl ⟨rfl, List.mem_append.2 (.inl h2), h3, fun y hy hay => ?_⟩
        rcases List.mem_append.1 hy with hy | hy
        · exact h4 y hy hay
        · simp at hy; omega
    · cases h1
      unfold stp
      by_cases hx : at_ < x
      · simp only [hx, decide_true, if_true, Bool.not_false]
        refine .inl ⟨rfl, by simp, hx, fun y hy hay => ?_⟩
        rcases List.mem_append.1 hy with hy | hy
        · have := h2 y hy; omega
        · simp at hy; omega
      · simp only [hx, decide_false, Bool.false_eq_true, if_false]
        refine .inr ⟨rfl, fun y hy => ?_⟩
        rcases List.mem_append.1 hy with hy | hy
        · exact h2 y hy
        · simp at hy; omega
theorem next_is (at_ : Int) (l : List Int) : NextIs at_ l (nextV at_ l) := by
  have := next_fold at_ l [] (0, false) (.inr ⟨rfl, by simp⟩)
  rwa [List.nil_append] at this
def AheadIs (at_ : Int) (l : List Int) (s : Int × Bool) : Prop := (s.2 = true ∧ s.1 ∈ l ∧ s.1 < at_ ∧ ∀ y ∈ l, y < at_ → y ≤ s.1) ∨ (s = (0, false) ∧ ∀ y ∈ l, at_ ≤ y)
theorem ahead_fold (at_ : Int) : ∀ (l p : List Int) (s : Int × Bool), AheadIs at_ p s → AheadIs at_ (p ++ l) (l.foldl (stp (fun x => decide (x < at_)) (fun a b => decide (b < a))) s)
  | [], p, s, h => by simpa using h
  | x :: l, p, s, h => by
    rw [List.foldl_cons, show p ++ x :: l = (p ++ [x]) ++ l by simp]
    refine ahead_fold at_ l (p ++ [x]) _ ?_
    obtain ⟨v, f⟩ := s
    rcases h with ⟨h1, h2, h3, h4⟩ | ⟨h1, h2⟩
    · simp only at h1 h2 h3 h4
      subst h1
      unfold stp
      by_cases hx : x < at_
      · simp only [hx, decide_true, if_true, Bool.not_true, Bool.false_eq_true, if_false]
        by_cases hv : v < x
        · simp only [hv, decide_true, if_true]
          refine .inl ⟨rfl, by simp, hx, fun y hy hay => ?_⟩
          rcases List.mem_append.1 hy with hy | hy
          · have := h4 y hy hay; omega
          · simp at hy; omega
        · simp only [hv, decide_false, Bool.false_eq_true, if_false]
          refine .inl ⟨rfl, List.mem_append.2 (.inl h2), h3, fun y hy hay => ?_⟩
          rcases List.mem_append.1 hy with hy | hy
          · exact h4 y hy hay
          · simp at hy; omega
      · simp only [hx, decide_false, Bool.false_eq_true, if_false]
        refine .inl ⟨rfl, List.mem_append.2 (.inl h2), h3, fun y hy hay => ?_⟩
        rcases List.mem_append.1 hy with hy | hy
        · exact h4 y hy hay
        · simp at hy; omega
    · cases h1
      unfold stp
      by_cases hx : x < at_
      · simp only [hx, decide_true, if_true, Bool.not_false]
        refine .inl ⟨rfl, by simp, hx, fun y hy hay => ?_⟩
        rcases List.mem_append.1 hy with hy | hy
        · have := h2 y hy; omega
        · simp at hy; omega
      · simp only [hx, decide_false, Bool.false_eq_true, if_false]
        refine .inr ⟨rfl, fun y hy => ?_⟩
        rcases List.mem_append.1 hy with hy | hy
        · exact h2 y hy
        · simp at hy; omega
theorem ahead_is (at_ : Int) (l : List Int) : AheadIs at_ l (aheadV at_ l) := by
  have := ahead_fold at_ l [] (0, false) (.inr ⟨rfl, by simp⟩)
  rwa [List.nil_append] at this
theorem next_eq {at_ : Int} {l l' : List Int} (h : ∀ x, x ∈ l ↔ x ∈ l') : nextV at_ l = nextV at_ l' := by
  have h1 := next_is at_ l
  have h2 := next_is at_ l'
  generalize nextV at_ l = s at *
  generalize nextV at_ l' = t at *
  obtain ⟨a, f⟩ := s
  obtain ⟨b, g⟩ := t
  unfold NextIs at h1 h2
  simp only [Prod.mk.injEq] at h1 h2 ⊢
  rcases h1 with ⟨e1, m1, l1, a1⟩ | ⟨⟨e1, e1'⟩, a1⟩ <;> rcases h2 with ⟨e2, m2, l2, a2⟩ | ⟨⟨e2, e2'⟩, a2⟩
  · have := a1 b ((h b).2 m2) l2
    have := a2 a ((h a).1 m1) l1
    exact ⟨by omega, by rw [e1, e2]⟩
  · have := a2 a ((h a).1 m1); omega
  · have := a1 b ((h b).2 m2); omega
  · exact ⟨by omega, by rw [e1', e2']⟩
theorem ahead_eq {at_ : Int} {l l' : List Int} (h : ∀ x, x ∈ l ↔ x ∈ l') : aheadV at_ l = aheadV at_ l' := by
  have h1 := ahead_is at_ l
  have h2 := ahead_is at_ l'
  generalize aheadV at_ l = s at *
  generalize aheadV at_ l' = t at *
  obtain ⟨a, f⟩ := s
  obtain ⟨b, g⟩ := t
  unfold AheadIs at h1 h2
  simp only [Prod.mk.injEq] at h1 h2 ⊢
  rcases h1 with ⟨e1, m1, l1, a1⟩ | ⟨⟨e1, e1'⟩, a1⟩ <;> rcases h2 with ⟨e2, m2, l2, a2⟩ | ⟨⟨e2, e2'⟩, a2⟩
  · have := a1 b ((h b).2 m2) l2
    have := a2 a ((h a).1 m1) l1
    exact ⟨by omega, by rw [e1, e2]⟩
  · have := a2 a ((h a).1 m1); omega
  · have := a1 b ((h b).2 m2); omega
  · exact ⟨by omega, by rw [e1', e2']⟩

/-- Rising, each once: one list, whatever it was made of. -/
theorem rise_one : ∀ {a b : List Int}, a.Pairwise (· < ·) → b.Pairwise (· < ·) → (∀ x, x ∈ a ↔ x ∈ b) → a = b
  | [], [], _, _, _ => rfl
  | [], y :: b, _, _, h => absurd ((h y).2 (by simp)) (by simp)
  | x :: a, [], _, _, h => absurd ((h x).1 (by simp)) (by simp)
  | x :: a, y :: b, ha, hb, h => by
    obtain ⟨ha1, ha2⟩ := List.pairwise_cons.1 ha
    obtain ⟨hb1, hb2⟩ := List.pairwise_cons.1 hb
    have hxy : x = y := by
      have h1 := (h x).1 (by simp)
      have h2 := (h y).2 (by simp)
      rcases List.mem_cons.1 h1 with h1 | h1
      · exact h1
      · rcases List.mem_cons.1 h2 with h2 | h2
        · exact h2.symm
        · have := hb1 x h1; have := ha1 y h2; omega
    subst hxy
    rw [rise_one ha2 hb2 fun z => ⟨fun hz => ?_, fun hz => ?_⟩]
    · rcases List.mem_cons.1 ((h z).1 (List.mem_cons_of_mem _ hz)) with e | e
      · have := ha1 z hz; omega
      · exact e
    · rcases List.mem_cons.1 ((h z).2 (List.mem_cons_of_mem _ hz)) with e | e
      · have := hb1 z hz; omega
      · exact e
def srtI (l : List Int) : List Int := l.mergeSort fun x y => decide (x ≤ y)
def uqI (l : List Int) : List Int := Go.Lib.compact (srtI l)
theorem srtI_len (l : List Int) : (srtI l).length = l.length := List.length_mergeSort _
theorem srtI_mem (l : List Int) (x : Int) : x ∈ srtI l ↔ x ∈ l := (List.mergeSort_perm l _).mem_iff
theorem srtI_le (l : List Int) : (srtI l).Pairwise (· ≤ ·) := by
  have := List.pairwise_mergeSort (le := fun x y : Int => decide (x ≤ y)) (fun a b c h1 h2 => by simp at *; omega) (fun a b => by simp; omega) l
  exact this.imp fun h => by simpa using h
theorem comp_rise (zs : List Int) (hs : zs.Pairwise (· ≤ ·)) : ∀ m, m ≤ zs.length → (Go.Lib.compactUpTo zs.toArray m).Pairwise (· < ·) ∧ (∀ x, x ∈ Go.Lib.compactUpTo zs.toArray m ↔ x ∈ zs.take m)
  | 0, _ => ⟨by simp [Go.Lib.compactUpTo], fun x => by simp [Go.Lib.compactUpTo]⟩
  | m + 1, hm => by
    obtain ⟨h1, h2⟩ := comp_rise zs hs m (by omega)
    rw [Go.Lib.compactUpTo_succ]
    have hg : ∀ j, j < zs.length → zs.toArray[j]! = zs[j]?.getD 0 := fun j hj => by
      rw [getElem!_pos zs.toArray j (by simpa using hj), List.getElem?_eq_getElem hj]; simp
    have hord : ∀ i j, i ≤ j → j < zs.length → zs[i]?.getD 0 ≤ zs[j]?.getD 0 := fun i j hij hj => by
      rw [List.getElem?_eq_getElem hj, List.getElem?_eq_getElem (by omega : i < zs.length)]
      by_cases e : i = j
      · subst e; exact Int.le_refl _
      · exact List.pairwise_iff_getElem.1 hs i j (by omega) hj (by omega)
    have hle : ∀ x ∈ zs.take m, x ≤ zs[m - 1]?.getD 0 := fun x hx => by
      obtain ⟨j, hj, rfl⟩ := List.mem_iff_getElem.1 hx
      simp at hj
      have := hord j (m - 1) (by omega) (by omega)
      rw [List.getElem_take]
      rw [List.getElem?_eq_getElem (by omega : j < zs.length)] at this
      exact this
    rw [take_snocI zs m (by omega)]
    by_cases hk : Go.Lib.keeps zs.toArray m = true
    · rw [if_pos hk, hg m (by omega)]
      refine ⟨?_, fun x => by rw [List.mem_append, List.mem_append, h2]⟩
      refine List.pairwise_append.2 ⟨h1, by simp, fun a ha b hb => ?_⟩
      simp at hb
      subst hb
      have h3 := hle a ((h2 a).1 ha)
      simp only [Go.Lib.keeps, decide_eq_true_eq] at hk
      rcases hk with hk | hk
      · subst hk
        have := (h2 a).1 ha
        simp at this
      · by_cases hm0 : m = 0
        · subst hm0
          have := (h2 a).1 ha
          simp at this
        rw [hg m (by omega), hg (m - 1) (by omega)] at hk
        have := hord (m - 1) m (by omega) (by omega)
        omega
    · rw [if_neg hk]
      simp only [Go.Lib.keeps, decide_eq_true_eq, not_or, Classical.not_not] at hk
      obtain ⟨hm0, hk⟩ := hk
      rw [hg m (by omega), hg (m - 1) (by omega)] at hk
      refine ⟨by simpa using h1, fun x => ?_⟩
      rw [List.append_nil, h2, List.mem_append]
      refine ⟨.inl, fun h => h.elim id fun h => ?_⟩
      simp at h
      subst h
      rw [hk]
      refine List.mem_iff_getElem.2 ⟨m - 1, by simp; omega, ?_⟩
      rw [List.getElem_take, List.getElem?_eq_getElem (by omega : m - 1 < zs.length)]
      rfl
theorem uqI_rise (l : List Int) : (uqI l).Pairwise (· < ·) := (comp_rise (srtI l) (srtI_le l) _ (Nat.le_refl _)).1
theorem uqI_mem (l : List Int) (x : Int) : x ∈ uqI l ↔ x ∈ l := by
  have := (comp_rise (srtI l) (srtI_le l) _ (Nat.le_refl _)).2 x
  rw [List.take_length] at this
  exact this.trans (srtI_mem l x)
theorem uqI_len (l : List Int) : (uqI l).length ≤ l.length := by
  unfold uqI Go.Lib.compact Go.Lib.compactUpTo
  rw [List.length_map]
  refine Nat.le_trans (List.length_filter_le _ _) ?_
  rw [List.length_range, srtI_len]
  exact Nat.le_refl _
theorem uqI_ne (l : List Int) (h : l ≠ []) : uqI l ≠ [] := fun e => by
  rcases l with _ | ⟨x, l⟩
  · exact h rfl
  · have := (uqI_mem (x :: l) x).2 (by simp)
    rw [e] at this
    simp at this

end Go.Proofs.Ytfgnlohnalgnpaa
