/- A region that draws its order, walked in stretches: operations that only read, in any order, then one that all others wait for, and so on. -/
import Derived.Test.YtmmkcfjncpcabaaDoorKa
import Derived.StillTailTactics
namespace Go.Proofs.YtmmkcfjncpcabaaDoor
open Go Go.RowKit

section
variable {P : Program} {ops : Array Oper} {md : Region.Mode} {w : World}

/-- Behind operation n each waits for one that stands between. -/
def behindB (md : Region.Mode) (ops : Array Oper) (n : Nat) : Bool :=
  (List.range ops.size).all fun t => decide (t ≤ n) || (List.range t).any fun s => decide (n ≤ s) && Region.waitsFor md ops t s
/-- The first k are listed. -/
def firstK (m k : Nat) : Array Bool := (List.replicate k true ++ List.replicate (m - k) false).toArray
/-- None waits for a later one. -/
def backB (md : Region.Mode) (ops : Array Oper) : Bool :=
  (List.range ops.size).all fun j => match ops[j]? with
    | some oj => oj.after.all fun e => !(Region.binds md e) || decide (e.on < j)
    | none => true
/-- Each of f operations from k on may come up when those ahead have, and is apart from what does not wait for it. -/
def stretchB (md : Region.Mode) (ops : Array Oper) : Nat → Nat → Bool
  | 0, _ => true
  | f + 1, k => (Region.ready md ops (firstK ops.size k)).contains k && Region.free md ops (firstK ops.size k) k && stretchB md ops f (k + 1)

theorem firstK_getD (m k i : Nat) (d : Bool) (hk : k ≤ m) (hi : i < m) : (firstK m k).getD i d = decide (i < k) := by
  unfold firstK
  simp only [Array.getD_eq_getD_getElem?, List.getElem?_toArray, List.getElem?_append, List.length_replicate, List.getElem?_replicate]
  by_cases h : i < k
  · simp [h]
  · simp [h, show i - k < m - k by omega]
theorem firstK_size (m k : Nat) (hk : k ≤ m) : (firstK m k).size = m := by simp [firstK]; omega
theorem firstK_zero (m : Nat) : firstK m 0 = Array.replicate m false := by
  simp [firstK]
theorem firstK_set (m k : Nat) (hk : k < m) : (firstK m k).setIfInBounds k true = firstK m (k + 1) := by
  apply Array.ext
  · rw [Array.size_setIfInBounds, firstK_size m k (by omega), firstK_size m (k + 1) (by omega)]
  · intro i h1 h2
    rw [firstK_size m (k + 1) (by omega)] at h2
    have e1 := firstK_getD m k i false (by omega) h2
    have e2 := firstK_getD m (k + 1) i false (by omega) h2
    rw [Array.getD_eq_getD_getElem?, Array.getElem?_eq_getElem (by rw [firstK_size m k (by omega)]; exact h2), Option.getD_some] at e1
    rw [Array.getD_eq_getD_getElem?, Array.getElem?_eq_getElem (by rw [firstK_size m (k + 1) (by omega)]; exact h2), Option.getD_some] at e2
    rw [e2, Array.getElem_setIfInBounds (by rw [firstK_size m k (by omega)]; exact h2)]
    by_cases hik : k = i
    · subst hik
      simp
    · rw [if_neg hik, e1]
      have : i < k ↔ i < k + 1 := by omega
      simp [this]

theorem inv_firstK {n k : Nat} (hb : backB md ops = true) (hkn : k ≤ n) (hn : n < ops.size) : HeadInv md ops n (firstK ops.size k) := by
  refine ⟨firstK_size _ _ (by omega), fun j oj hj hl e he hbi => ?_, fun t ht hts => ?_⟩
  · have hjs : j < ops.size := (Array.getElem?_eq_some_iff.1 hj).1
    rw [firstK_getD _ _ _ _ (by omega) hjs] at hl
    have hjk : j < k := of_decide_eq_true hl
    have h1 := List.all_eq_true.1 hb j (List.mem_range.2 hjs)
    rw [hj] at h1
    have h2 := Array.all_eq_true'.1 h1 e he
    simp only [hbi, Bool.not_true, Bool.false_or, decide_eq_true_eq] at h2
    rw [firstK_getD _ _ _ _ (by omega) (by omega)]
    exact decide_eq_true (by omega)
  · rw [firstK_getD _ _ _ _ (by omega) hts]
    exact decide_eq_false (by omega)
/-- As long as one ahead of n has not come up, none from n on may. -/
theorem none_ready {n : Nat} {listed : Array Bool} (hs : Region.sinkB md ops n = true) (hc : behindB md ops n = true) (inv : HeadInv md ops n listed) :
    ∀ (d i : Nat), n - i = d → i < n → listed.getD i true = false → ∀ t, n ≤ t → t ∉ Region.ready md ops listed := by
  intro d
  induction d using Nat.strongRecOn with
  | _ d ih =>
    intro i hd hi hun t ht hr
    obtain ⟨_, ot, hot, hall⟩ := mem_ready.1 hr
    have hts : t < ops.size := (Array.getElem?_eq_some_iff.1 hot).1
    rcases Nat.eq_or_lt_of_le ht with rfl | hlt
    · obtain ⟨j, hj, hj2⟩ := List.any_eq_true.1 (List.all_eq_true.1 hs i (List.mem_range.2 hi))
      rw [Bool.and_eq_true, decide_eq_true_eq] at hj2
      obtain ⟨oj, hoj, e, he, hb, hon⟩ := Region.waitsFor_spec hj2.2
      have hjn := List.mem_range.1 hj
      rcases Nat.eq_or_lt_of_le (show j ≤ n by omega) with rfl | hjlt
      · cases Option.some.inj (hoj.symm.trans hot)
        have h2 := hall e he hb
        rw [hon, getD_both hun] at h2
        cases h2
      · cases hl : listed.getD j false with
        | true =>
          have h2 := inv.closed j oj hoj hl e he hb
          rw [hon, getD_both hun] at h2
          cases h2
        | false => exact ih (n - j) (by omega) j rfl hjlt (getD_in (by rw [inv.size]; omega) hl) n (Nat.le_refl _) hr
    · have h1 := List.all_eq_true.1 hc t (List.mem_range.2 hts)
      rw [Bool.or_eq_true, decide_eq_true_eq] at h1
      rcases h1 with h1 | h1
      · omega
      · obtain ⟨s, hs1, hs2⟩ := List.any_eq_true.1 h1
        rw [Bool.and_eq_true, decide_eq_true_eq] at hs2
        obtain ⟨o', ho', e, he, hb, hon⟩ := Region.waitsFor_spec hs2.2
        cases Option.some.inj (ho'.symm.trans hot)
        have h2 := hall e he hb
        rw [hon, getD_both (inv.tail s hs2.1 (by have := List.mem_range.1 hs1; omega))] at h2
        cases h2
/-- One that only reads may be thought to come up at once. -/
theorem take_now {n i : Nat} {oi : Oper} {v : Value} {L : Array Bool → Act → Prop} (hi : ops[i]? = some oi) (hsel : ∀ (j : Nat) (o : Oper) cs b, ops[j]? = some o → o.op ≠ .select cs b) (hin : i < n)
    (hT : ∀ listed, HeadInv md ops n listed → listed.getD i true = false → ∀ t, n ≤ t → t ∉ Region.ready md ops listed)
    (hdone : ∀ listed a, L listed a → ∀ j ∈ Region.ready md ops listed, n ≤ j) :
    ∀ (f : Nat) (listed : Array Bool) (a : Act), HeadInv md ops n listed →
      (∀ j oj, ops[j]? = some oj → j ≠ i → listed.getD j true = false → (∀ e ∈ oj.after, Region.binds md e = true → e.on ≠ i) → oi.apart ops oj = true) →
      i ∈ Region.ready md ops listed → YieldsAt P ops w oi v a →
      wpAnyL P md ops w n L f (listed.setIfInBounds i true) (a.put oi.dst v) → wpAnyL P md ops w n L (f + 1) listed a := by
  intro f
  induction f with
  | zero =>
    intro listed a inv _ hr hy H
    have hun := (mem_ready.1 hr).1
    refine ⟨fun h => (by rw [h] at hr; cases hr), fun j hj => ?_⟩
    have hjn : j < n := Nat.lt_of_not_le fun h => hT listed inv hun j h hj
    refine ⟨hjn, ?_⟩
    by_cases hji : j = i
    · subst hji
      exact hy.stOp hi H
    · have := hdone _ _ H j (ready_mono hj hji)
      omega
  | succ f ih =>
    intro listed a inv hfree hr hy H
    have hun := (mem_ready.1 hr).1
    refine ⟨fun h => (by rw [h] at hr; cases hr), fun j hj => ?_⟩
    have hjn : j < n := Nat.lt_of_not_le fun h => hT listed inv hun j h hj
    refine ⟨hjn, ?_⟩
    by_cases hji : j = i
    · subst hji
      exact hy.stOp hi H
    · have h1 := (H.2 j (ready_mono hj hji)).2
      obtain ⟨hjun, oj, hoj, hall⟩ := mem_ready.1 hj
      have hnot : ∀ e ∈ oj.after, Region.binds md e = true → e.on ≠ i := fun e he hb heq => by
        have h2 := hall e he hb
        rw [heq, getD_both hun] at h2
        cases h2
      refine stOp_mono (fun a' h3 => ih (listed.setIfInBounds j true) a' (inv.set hj hjn) (fun k ok hk hki hun' hno => hfree k ok hk hki ?_ hno) (ready_mono hr (Ne.symm hji)) h3.1 ?_) (stOp_put hoj (hfree j oj hoj hji hjun hnot) (fun cs b => hsel i oi cs b hi) (fun cs b => hsel j oj cs b hoj) hy h1)
      · by_cases hjk : j = k
        · subst hjk
          exact hjun
        · rwa [getD_set_ne true hjk] at hun'
      · rw [Array.setIfInBounds_comm _ _ hji]
        exact h3.2
theorem stretch {n : Nat} {Lq : Act → Prop} (hsel : Region.noSelect ops = true) (hb : backB md ops = true) (hs : Region.sinkB md ops n = true) (hc : behindB md ops n = true) (hn : n < ops.size) :
    ∀ (l : List Oper) (k : Nat) (a : Act), (∀ j, j < l.length → l[j]? = ops[k + j]?) → k + l.length = n → stretchB md ops l.length k = true → wpStill P ops w Lq l a →
    wpAnyL P md ops w n (fun listed' a' => listed' = firstK ops.size n ∧ Lq a') l.length (firstK ops.size k) a
  | [], k, a, _, hk, _, h => by
    have : k = n := by simpa using hk
    subst this
    exact ⟨rfl, h⟩
  | o :: l, k, a, hl, hk, hB, h => by
    have h0 : ops[k]? = some o := by simpa using (hl 0 (by simp)).symm
    simp only [List.length_cons, stretchB, Bool.and_eq_true] at hB
    obtain ⟨⟨hr, hf⟩, hB'⟩ := hB
    have hkn : k < n := by simp only [List.length_cons] at hk; omega
    have hr' : k ∈ Region.ready md ops (firstK ops.size k) := by simpa using hr
    have hst : stOp P ops w k (wpStill P ops w Lq l) a := by unfold stOp; simp only [h0]; exact h
    obtain ⟨v, hy, hK⟩ := yieldsAt_of_stOp h0 hst
    refine take_now h0 (Region.noSelect_spec hsel) hkn (fun listed inv hun => none_ready hs hc inv _ k rfl hkn hun) (fun listed' a' hL j hj => ?_) l.length (firstK ops.size k) a (inv_firstK hb (by omega) hn) (Region.free_spec h0 hf) hr' hy ?_
    · rw [hL.1] at hj
      obtain ⟨hu, oj, hoj, _⟩ := mem_ready.1 hj
      rw [firstK_getD _ _ _ _ (by omega) (Array.getElem?_eq_some_iff.1 hoj).1] at hu
      exact Nat.le_of_not_lt (of_decide_eq_false hu)
    · rw [firstK_set _ _ (by omega)]
      exact stretch hsel hb hs hc hn l (k + 1) _ (fun j hj => by have := hl (j + 1) (by simp; omega); simpa [Nat.add_assoc, Nat.add_comm 1 j] using this) (by simp only [List.length_cons] at hk; omega) hB' hK
/-- The beginning. -/
theorem seg_start {id : Nat} {Q : Exit → Act → World → Prop} {a : Act} {w : World} (hm : P.follows .mixedOrders = true) (h : wpAny P .any ops Q ops.size (firstK ops.size 0) a w.drew) : (Code.region id ops true).wp P Q a w :=
  wp_region_any hm (by rw [firstK_zero] at h; exact h)
/-- A stretch of m operations from k on that only read, ahead of one for which all behind it wait. -/
theorem seg_quiet {Q : Exit → Act → World → Prop} {a : Act} {w : World} {l : List Oper} (k m g : Nat) (hl : (ops.toList.drop k).take m = l) (hn : decide (k + m < ops.size) = true) (hsel : Region.noSelect ops = true) (hb : backB md ops = true) (hs : Region.sinkB md ops (k + m) = true) (hc : behindB md ops (k + m) = true) (hst : stretchB md ops m k = true)
    (h : wpStill P ops w (fun a' => wpAny P md ops Q g (firstK ops.size (k + m)) a' w) l a) : wpAny P md ops Q (m + g) (firstK ops.size k) a w := by
  have hn := of_decide_eq_true hn
  have hlen : l.length = m := by rw [← hl]; simp; omega
  subst hlen
  refine wpAny_of_head (fun listed a' hL => ?_) _ _ _ (stretch hsel hb hs hc hn l k a (fun j hj => ?_) rfl hst h)
  · rw [hL.1]
    exact hL.2
  · rw [← hl, List.getElem?_take, if_pos hj, List.getElem?_drop]
    simp
/-- One for which all behind it wait. -/
theorem seg_one {Q : Exit → Act → World → Prop} {a : Act} {w : World} {o : Oper} (k F : Nat) (ho : ops[k]? = some o) (hr : Region.ready md ops (firstK ops.size k) = [k])
    (h : ∀ K : Act → World → Prop, Hid (∀ a w, wpAny P md ops Q F (firstK ops.size (k + 1)) a w → K a w) → if Region.wanted o (yielded ops a.tmps) = true then Oper.wp P o a w K Q else K (a.put o.dst undef) w) : wpAny P md ops Q (F + 1) (firstK ops.size k) a w := by
  refine ⟨fun h0 => (by rw [hr] at h0; cases h0), fun i hi => ?_⟩
  rw [hr] at hi
  cases List.mem_singleton.1 hi
  have hks : k < ops.size := (Array.getElem?_eq_some_iff.1 ho).1
  rw [firstK_set _ _ hks]
  exact wpOp_step ho (fun K' hK => h K' (Lib.hid hK))
end
end Go.Proofs.YtmmkcfjncpcabaaDoor
