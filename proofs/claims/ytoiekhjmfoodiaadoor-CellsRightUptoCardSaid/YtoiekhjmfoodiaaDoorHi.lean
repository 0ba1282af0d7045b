/- The walk of cells.Mark up to what at does with its closure. -/
import Derived.Test.YtoiekhjmfoodiaaDoorHd
import Derived.Test.YtoiekhjmfoodiaaDoorGw
import Derived.Test.YtoiekhjmfoodiaaDoorKa
import Derived.StillTailTactics
import Derived.Deep.RegionHeld3
namespace Go.Proofs.YtoiekhjmfoodiaaDoor
open Go.RowKit

set_option maxRecDepth 100000 in
set_option maxHeartbeats 4000000 in
theorem mark_via (A : Option Addr) (LL : List CC) (n c : Nat) (z r : Int) (w : World)
    (hd : ∀ W P1 P2 P3, Below w.heap.size w W → W.heap[P1]? = some (.cells #[.int .i64 z] 3 (0, 0)) → W.heap[P2]? = some (.cells #[.int .i32 r] 21 (0, 0)) → W.heap[P3]? = some (.cells #[.string (put7 r)] 9 (0, 0)) →
      Calls Tryd.prog 48 #[.slice A n c, .int .i64 z, .func (.func 63) #[] #[.pointer (some ⟨P1, 0, none⟩), .pointer (some ⟨P2, 0, none⟩), .pointer (some ⟨P3, 0, none⟩)]] W fun e w' => ∃ v, e = .returned v ∧ OC W.heap.size w' v LL ∧ Below W.heap.size W w') :
    Calls Tryd.prog 36 #[.slice A n c, .int .i64 z, .int .i32 r] w fun e w' => ∃ v, e = .returned v ∧ OC w.heap.size w' v LL ∧ Below w.heap.size w w' := by
  have hb1 : Below w.heap.size w ((w.alloc (.cells #[.int .i64 z] 3)).alloc (.cells #[.int .i32 r] 21)) := belA (belA (Below.refl _ _) _) _
  have s0 : (w.alloc (.cells #[.int .i64 z] 3)).heap.size = w.heap.size + 1 := by simp
  have s1 : ((w.alloc (.cells #[.int .i64 z] 3)).alloc (.cells #[.int .i32 r] 21)).heap.size = w.heap.size + 2 := by simp
  have b1 : ((w.alloc (.cells #[.int .i64 z] 3)).alloc (.cells #[.int .i32 r] 21)).heap[w.heap.size]? = some (.cells #[.int .i64 z] 3 (0, 0)) :=
    ((belA (Below.refl (w.alloc (.cells #[.int .i64 z] 3)).heap.size _) (.cells #[.int .i32 r] 21)).block w.heap.size (by omega)).trans (heap_alloc_new w _)
  have b2 : ((w.alloc (.cells #[.int .i64 z] 3)).alloc (.cells #[.int .i32 r] 21)).heap[w.heap.size + 1]? = some (.cells #[.int .i32 r] 21 (0, 0)) := by
    have n2 := heap_alloc_new (w.alloc (.cells #[.int .i64 z] 3)) (.cells #[.int .i32 r] 21)
    rw [s0] at n2
    exact n2
  generalize HW3 : ((w.alloc (.cells #[.int .i64 z] 3)).alloc (.cells #[.int .i32 r] 21)) = w3 at *
  have HOF : Hid (Calls Tryd.prog 61 #[.int .i32 r] w3 fun e w' => e = .returned (.string (put7 r)) ∧ w3 = w') := Lib.hid (put7_any r w3)
  have HAT : Hid (Calls Tryd.prog 48 #[.slice A n c, .int .i64 z, .func (.func 63) #[] #[.pointer (some ⟨w.heap.size, 0, none⟩), .pointer (some ⟨w.heap.size + 1, 0, none⟩), .pointer (some ⟨w3.heap.size, 0, none⟩)]] (w3.alloc (.cells #[.string (put7 r)] 9)) fun e w' => ∃ v, e = .returned v ∧ OC w.heap.size w' v LL ∧ Below w.heap.size w w') := Lib.hid (by
    have hWa : Below w3.heap.size w3 (w3.alloc (.cells #[.string (put7 r)] 9)) := belA (Below.refl _ _) _
    have hb := bel0 hb1 hWa
    exact (hd _ _ _ _ hb ((hWa.block _ (by omega)).trans b1) ((hWa.block _ (by omega)).trans b2) (heap_alloc_new w3 _)).mono fun e w' ⟨v, he, ho, hb'⟩ => ⟨v, he, ho.lower hb.size, bel0 hb hb'⟩)
  have HC6 : Hid (w3.cell? ⟨w.heap.size + 1, 0, none⟩ = some (.int .i32 r)) := Lib.hid (cell_of_row _ _ 0 _ _ _ b2)
  have HC5 : Hid ((w3.alloc (.cells #[.string (put7 r)] 9)).cell? ⟨w.heap.size, 0, none⟩ = some (.int .i64 z)) := Lib.hid (cell_of_row _ _ 0 _ _ _ (((belA (Below.refl w3.heap.size w3) (.cells #[.string (put7 r)] 9)).block _ (by omega)).trans b1))
  have HE := Lib.hid HW3
  clear HW3 hd hb1 s0 s1 b1 b2
  generalize put7 r = pr at *
  go_enter Tryd.func36, Tryd.ntmps36
  go_wp2_with (first
    | (go_at_call 61; rw [HE.out]; (with_reducible refine (HOF.out).mono ?_); rintro e w4 ⟨rfl, rfl⟩; have c5 := HC5.out)
    | (go_at_call 48; (with_reducible refine (HAT.out).mono ?_); rintro e w5 ⟨v, rfl, ho, hb⟩; have HO1 := Lib.hid ho; have HB1 := Lib.hid hb; clear ho hb))
  go_ret
  exact ⟨_, rfl, HO1.out, HB1.out⟩
end Go.Proofs.YtoiekhjmfoodiaaDoor

namespace Go.Proofs.YtoiekhjmfoodiaaDoor
open Go Go.RowKit

section
variable {P : Program} {ops : Array Oper} {md : Region.Mode} {w : World}

/-- Behind operation n each waits for one that stands between. -/
def behindB (md : Region.Mode) (ops : Array Oper) (n : Nat) : Bool :=
  (List.range ops.size).all fun t => decide (t ≤ n) || (List.range t).any fun s => decide (n ≤ s) && Region.waitsFor md ops t s
/-- The first k are listed. -/
def firstK (m k : Nat) : Array Bool := (List.replicate k true ++ List.replicate (m - k) false).toArray
/-- None waits for a later one. -/
def backB (md : Region.Mode) (ops : Array Oper) : Bool :=
  (List.range ops.size).all fun j => match ops[j]? with
    | some oj => oj.after.all fun e => !(Region.binds md e) || decide (e.on < j)
    | none => true
/-- Each of f operations from k on may come up when those ahead have, and is apart from what does not wait for it. -/
def stretchB (md : Region.Mode) (ops : Array Oper) : Nat → Nat → Bool
  | 0, _ => true
  | f + 1, k => (Region.ready md ops (firstK ops.size k)).contains k && Region.free md ops (firstK ops.size k) k && stretchB md ops f (k + 1)

theorem firstK_getD (m k i : Nat) (d : Bool) (hk : k ≤ m) (hi : i < m) : (firstK m k).getD i d = decide (i < k) := by
  unfold firstK
  simp only [Array.getD_eq_getD_getElem?, List.getElem?_toArray, List.getElem?_append, List.length_replicate, List.getElem?_replicate]
  by_cases h : i < k
  · simp [h]
  · simp [h, show i - k < m - k by omega]
theorem firstK_size (m k : Nat) (hk : k ≤ m) : (firstK m k).size = m := by simp [firstK]; omega
theorem firstK_zero (m : Nat) : firstK m 0 = Array.replicate m false := by
  simp [firstK]
theorem firstK_set (m k : Nat) (hk : k < m) : (firstK m k).setIfInBounds k true = firstK m (k + 1) := by
  apply Array.ext
  · rw [Array.size_setIfInBounds, firstK_size m k (by omega), firstK_size m (k + 1) (by omega)]
  · intro i h1 h2
    rw [firstK_size m (k + 1) (by omega)] at h2
    have e1 := firstK_getD m k i false (by omega) h2
    have e2 := firstK_getD m (k + 1) i false (by omega) h2
    rw [Array.getD_eq_getD_getElem?, Array.getElem?_eq_getElem (by rw [firstK_size m k (by omega)]; exact h2), Option.getD_some] at e1
    rw [Array.getD_eq_getD_getElem?, Array.getElem?_eq_getElem (by rw [firstK_size m (k + 1) (by omega)]; exact h2), Option.getD_some] at e2
    rw [e2, Array.getElem_setIfInBounds (by rw [firstK_size m k (by omega)]; exact h2)]
    by_cases hik : k = i
    · subst hik
      simp
    · rw [if_neg hik, e1]
      have : i < k ↔ i < k + 1 := by omega
      simp [this]

theorem inv_firstK {n k : Nat} (hb : backB md ops = true) (hkn : k ≤ n) (hn : n < ops.size) : HeadInv md ops n (firstK ops.size k) := by
  refine ⟨firstK_size _ _ (by omega), fun j oj hj hl e he hbi => ?_, fun t ht hts => ?_⟩
  · have hjs : j < ops.size := (Array.getElem?_eq_some_iff.1 hj).1
    rw [firstK_getD _ _ _ _ (by omega) hjs] at hl
    have hjk : j < k := of_decide_eq_true hl
    have h1 := List.all_eq_true.1 hb j (List.mem_range.2 hjs)
    rw [hj] at h1
    have h2 := Array.all_eq_true'.1 h1 e he
    simp only [hbi, Bool.not_true, Bool.false_or, decide_eq_true_eq] at h2
    rw [firstK_getD _ _ _ _ (by omega) (by omega)]
    exact decide_eq_true (by omega)
  · rw [firstK_getD _ _ _ _ (by omega) hts]
    exact decide_eq_false (by omega)
/-- As long as one ahead of n has not come up, none from n on may. -/
theorem none_ready {n : Nat} {listed : Array Bool} (hs : Region.sinkB md ops n = true) (hc : behindB md ops n = true) (inv : HeadInv md ops n listed) :
    ∀ (d i : Nat), n - i = d → i < n → listed.getD i true = false → ∀ t, n ≤ t → t ∉ Region.ready md ops listed := by
  intro d
  induction d using Nat.strongRecOn with
  | _ d ih =>
    intro i hd hi hun t ht hr
    obtain ⟨_, ot, hot, hall⟩ := mem_ready.1 hr
    have hts : t < ops.size := (Array.getElem?_eq_some_iff.1 hot).1
    rcases Nat.eq_or_lt_of_le ht with rfl | hlt
    · obtain ⟨j, hj, hj2⟩ := List.any_eq_true.1 (List.all_eq_true.1 hs i (List.mem_range.2 hi))
      rw [Bool.and_eq_true, decide_eq_true_eq] at hj2
      obtain ⟨oj, hoj, e, he, hb, hon⟩ := Region.waitsFor_spec hj2.2
      have hjn := List.mem_range.1 hj
      rcases Nat.eq_or_lt_of_le (show j ≤ n by omega) with rfl | hjlt
      · cases Option.some.inj (hoj.symm.trans hot)
        have h2 := hall e he hb
        rw [hon, getD_both hun] at h2
        cases h2
      · cases hl : listed.getD j false with
        | true =>
          have h2 := inv.closed j oj hoj hl e he hb
          rw [hon, getD_both hun] at h2
          cases h2
        | false => exact ih (n - j) (by omega) j rfl hjlt (getD_in (by rw [inv.size]; omega) hl) n (Nat.le_refl _) hr
    · have h1 := List.all_eq_true.1 hc t (List.mem_range.2 hts)
      rw [Bool.or_eq_true, decide_eq_true_eq] at h1
      rcases h1 with h1 | h1
      · omega
      · obtain ⟨s, hs1, hs2⟩ := List.any_eq_true.1 h1
        rw [Bool.and_eq_true, decide_eq_true_eq] at hs2
        obtain ⟨o', ho', e, he, hb, hon⟩ := Region.waitsFor_spec hs2.2
        cases Option.some.inj (ho'.symm.trans hot)
        have h2 := hall e he hb
        rw [hon, getD_both (inv.tail s hs2.1 (by have := List.mem_range.1 hs1; omega))] at h2
        cases h2
/-- One that only reads may be thought to come up at once. -/
theorem take_now {n i : Nat} {oi : Oper} {v : Value} {L : Array Bool → Act → Prop} (hi : ops[i]? = some oi) (hsel : ∀ (j : Nat) (o : Oper) cs b, ops[j]? = some o → o.op ≠ .select cs b) (hin : i < n)
    (hT : ∀ listed, HeadInv md ops n listed → listed.getD i true = false → ∀ t, n ≤ t → t ∉ Region.ready md ops listed)
    (hdone : ∀ listed a, L listed a → ∀ j ∈ Region.ready md ops listed, n ≤ j) :
    ∀ (f : Nat) (listed : Array Bool) (a : Act), HeadInv md ops n listed →
      (∀ j oj, ops[j]? = some oj → j ≠ i → listed.getD j true = false → (∀ e ∈ oj.after, Region.binds md e = true → e.on ≠ i) → oi.apart ops oj = true) →
      i ∈ Region.ready md ops listed → YieldsAt P ops w oi v a →
      wpAnyL P md ops w n L f (listed.setIfInBounds i true) (a.put oi.dst v) → wpAnyL P md ops w n L (f + 1) listed a := by
  intro f
  induction f with
  | zero =>
    intro listed a inv _ hr hy H
    have hun := (mem_ready.1 hr).1
    refine ⟨fun h => (by rw [h] at hr; cases hr), fun j hj => ?_⟩
    have hjn : j < n := Nat.lt_of_not_le fun h => hT listed inv hun j h hj
    refine ⟨hjn, ?_⟩
    by_cases hji : j = i
    · subst hji
      exact hy.stOp hi H
    · have := hdone _ _ H j (ready_mono hj hji)
      omega
  | succ f ih =>
    intro listed a inv hfree hr hy H
    have hun := (mem_ready.1 hr).1
    refine ⟨fun h => (by rw [h] at hr; cases hr), fun j hj => ?_⟩
    have hjn : j < n := Nat.lt_of_not_le fun h => hT listed inv hun j h hj
    refine ⟨hjn, ?_⟩
    by_cases hji : j = i
    · subst hji
      exact hy.stOp hi H
    · have h1 := (H.2 j (ready_mono hj hji)).2
      obtain ⟨hjun, oj, hoj, hall⟩ := mem_ready.1 hj
      have hnot : ∀ e ∈ oj.after, Region.binds md e = true → e.on ≠ i := fun e he hb heq => by
        have h2 := hall e he hb
        rw [heq, getD_both hun] at h2
        cases h2
      refine stOp_mono (fun a' h3 => ih (listed.setIfInBounds j true) a' (inv.set hj hjn) (fun k ok hk hki hun' hno => hfree k ok hk hki ?_ hno) (ready_mono hr (Ne.symm hji)) h3.1 ?_) (stOp_put hoj (hfree j oj hoj hji hjun hnot) (fun cs b => hsel i oi cs b hi) (fun cs b => hsel j oj cs b hoj) hy h1)
      · by_cases hjk : j = k
        · subst hjk
          exact hjun
        · rwa [getD_set_ne true hjk] at hun'
      · rw [Array.setIfInBounds_comm _ _ hji]
        exact h3.2
theorem stretch {n : Nat} {Lq : Act → Prop} (hsel : Region.noSelect ops = true) (hb : backB md ops = true) (hs : Region.sinkB md ops n = true) (hc : behindB md ops n = true) (hn : n < ops.size) :
    ∀ (l : List Oper) (k : Nat) (a : Act), (∀ j, j < l.length → l[j]? = ops[k + j]?) → k + l.length = n → stretchB md ops l.length k = true → wpStill P ops w Lq l a →
    wpAnyL P md ops w n (fun listed' a' => listed' = firstK ops.size n ∧ Lq a') l.length (firstK ops.size k) a
  | [], k, a, _, hk, _, h => by
    have : k = n := by simpa using hk
    subst this
    exact ⟨rfl, h⟩
  | o :: l, k, a, hl, hk, hB, h => by
    have h0 : ops[k]? = some o := by simpa using (hl 0 (by simp)).symm
    simp only [List.length_cons, stretchB, Bool.and_eq_true] at hB
    obtain ⟨⟨hr, hf⟩, hB'⟩ := hB
    have hkn : k < n := by simp only [List.length_cons] at hk; omega
    have hr' : k ∈ Region.ready md ops (firstK ops.size k) := by simpa using hr
    have hst : stOp P ops w k (wpStill P ops w Lq l) a := by unfold stOp; simp only [h0]; exact h
    obtain ⟨v, hy, hK⟩ := yieldsAt_of_stOp h0 hst
    refine take_now h0 (Region.noSelect_spec hsel) hkn (fun listed inv hun => none_ready hs hc inv _ k rfl hkn hun) (fun listed' a' hL j hj => ?_) l.length (firstK ops.size k) a (inv_firstK hb (by omega) hn) (Region.free_spec h0 hf) hr' hy ?_
    · rw [hL.1] at hj
      obtain ⟨hu, oj, hoj, _⟩ := mem_ready.1 hj
      rw [firstK_getD _ _ _ _ (by omega) (Array.getElem?_eq_some_iff.1 hoj).1] at hu
      exact Nat.le_of_not_lt (of_decide_eq_false hu)
    · rw [firstK_set _ _ (by omega)]
      exact stretch hsel hb hs hc hn l (k + 1) _ (fun j hj => by have := hl (j + 1) (by simp; omega); simpa [Nat.add_assoc, Nat.add_comm 1 j] using this) (by simp only [List.length_cons] at hk; omega) hB' hK
/-- The beginning. -/
theorem seg_start {id : Nat} {Q : Exit → Act → World → Prop} {a : Act} {w : World} (hm : P.follows .mixedOrders = true) (h : wpAny P .any ops Q ops.size (firstK ops.size 0) a w.drew) : (Code.region id ops true).wp P Q a w :=
  wp_region_any hm (by rw [firstK_zero] at h; exact h)
/-- A stretch of m operations from k on that only read, ahead of one for which all behind it wait. -/
theorem seg_quiet {Q : Exit → Act → World → Prop} {a : Act} {w : World} {l : List Oper} (k m g : Nat) (hl : (ops.toList.drop k).take m = l) (hn : decide (k + m < ops.size) = true) (hsel : Region.noSelect ops = true) (hb : backB md ops = true) (hs : Region.sinkB md ops (k + m) = true) (hc : behindB md ops (k + m) = true) (hst : stretchB md ops m k = true)
    (h : wpStill P ops w (fun a' => wpAny P md ops Q g (firstK ops.size (k + m)) a' w) l a) : wpAny P md ops Q (m + g) (firstK ops.size k) a w := by
  have hn := of_decide_eq_true hn
  have hlen : l.length = m := by rw [← hl]; simp; omega
  subst hlen
  refine wpAny_of_head (fun listed a' hL => ?_) _ _ _ (stretch hsel hb hs hc hn l k a (fun j hj => ?_) rfl hst h)
  · rw [hL.1]
    exact hL.2
  · rw [← hl, List.getElem?_take, if_pos hj, List.getElem?_drop]
    simp
/-- One for which all behind it wait. -/
theorem seg_one {Q : Exit → Act → World → Prop} {a : Act} {w : World} {o : Oper} (k F : Nat) (ho : ops[k]? = some o) (hr : Region.ready md ops (firstK ops.size k) = [k])
    (h : ∀ K : Act → World → Prop, Hid (∀ a w, wpAny P md ops Q F (firstK ops.size (k + 1)) a w → K a w) → if Region.wanted o (yielded ops a.tmps) = true then Oper.wp P o a w K Q else K (a.put o.dst undef) w) : wpAny P md ops Q (F + 1) (firstK ops.size k) a w := by
  refine ⟨fun h0 => (by rw [hr] at h0; cases h0), fun i hi => ?_⟩
  rw [hr] at hi
  cases List.mem_singleton.1 hi
  have hks : k < ops.size := (Array.getElem?_eq_some_iff.1 ho).1
  rw [firstK_set _ _ hks]
  exact wpOp_step ho (fun K' hK => h K' (Lib.hid hK))
end
end Go.Proofs.YtoiekhjmfoodiaaDoor

namespace Go.Proofs.YtoiekhjmfoodiaaDoor
open Go Go.RowKit

/-- What Mark's closure has caught: the place, the scalar, its bytes. -/
structure MarkC (w : World) (P1 P2 P3 : Nat) (x : Nat) (r : Int) (s : ByteArray) : Prop where
  h1 : w.heap[P1]? = some (.cells #[.int .i64 x] 3 (0, 0))
  h2 : w.heap[P2]? = some (.cells #[.int .i32 r] 21 (0, 0))
  h3 : w.heap[P3]? = some (.cells #[.string s] 9 (0, 0))
theorem MarkC.past {w w' : World} {P1 P2 P3 x : Nat} {r : Int} {s : ByteArray} (h : MarkC w P1 P2 P3 x r s) (hb : Below w.heap.size w w') : MarkC w' P1 P2 P3 x r s := by
  have k : ∀ {i : Nat} {o : Obj}, w.heap[i]? = some o → w'.heap[i]? = some o := fun {i o} hi => (hb.block i (Array.getElem?_eq_some_iff.1 hi).1).trans hi
  exact ⟨k h.h1, k h.h2, k h.h3⟩
/-- A cell's marks, and more; the other half. -/
def moreC (y : CC) (s : ByteArray) : CC := ⟨y.r, y.m ++ s, y.h, y.fk, y.fn, y.bk, y.bn, y.fl⟩
def halfC (y : CC) (h : Int) : CC := ⟨y.r, y.m, h, y.fk, y.fn, y.bk, y.bn, y.fl⟩
theorem seg_end {P : Program} {ops : Array Oper} {md : Region.Mode} {w : World} {Q : Exit → Act → World → Prop} {a : Act} {listed : Array Bool} (h0 : Region.ready md ops listed = []) (h : Q .normal a w) : wpAny P md ops Q 0 listed a w := ⟨h0, h⟩
set_option maxRecDepth 100000 in
set_option maxHeartbeats 4000000 in
theorem markFn_w (g n c x P1 P2 P3 : Nat) (M : List CC) (r : Int) (s : ByteArray) (hn : n = M.length) (hx : x < n) (w : World) (z : Int) (hz : ofZ r = z) (h0 : (z == 0) = false) (hT : WT w) (h : MC w g M) (hp : MarkC w P1 P2 P3 x r s) :
    Calls Tryd.prog 63 #[.slice (some ⟨g, 0, none⟩) n c, .pointer (some ⟨P1, 0, none⟩), .pointer (some ⟨P2, 0, none⟩), .pointer (some ⟨P3, 0, none⟩)] w fun e w' => e = .returned (.tuple #[]) ∧ MC w' g M ∧ KG g w w' := by
  have HW := Lib.hid (widthOf_any r w.drew ⟨hT.1, hT.2⟩)
  rw [hz] at HW
  have c1 := cell_of_row _ _ 0 _ _ _ hp.h1
  have c2 := cell_of_row _ _ 0 _ _ _ hp.h2
  have HM := Lib.hid (fun W (hb : Below w.drew.heap.size w.drew W) => (And.intro (h.past (belD hb)) ⟨(KG.refl g w).past (belD hb), hp.past (belD hb)⟩ : MC W g M ∧ KG g w W ∧ MarkC W P1 P2 P3 x r s))
  have hxn : (x : Int) < n := by have := hx; omega
  have h0n : (z != 0) = true := (by rw [bne, h0]; rfl : (z != 0) = true)
  clear h hp hT hz hn
  go_enter Tryd.func63, Tryd.ntmps63
  go_wp2
  refine wp_region_noPanic ?_
  refine seg_start (by kernel_rfl) ?_
  refine seg_quiet 0 1 20 rfl (by kernel_rfl) (by kernel_rfl) (by kernel_rfl) (by kernel_rfl) (by kernel_rfl) (by kernel_rfl) ?_
  simp only [List.take_succ_cons, List.take_zero, List.drop_zero]
  ((with_reducible refine wpStill_step (fun K hK => ?_)); go_simp; (with_reducible refine hK _ ?_); clear hK K)
  with_reducible refine wpStill_nil ?_
  refine seg_one 1 19 rfl (by kernel_rfl) (fun K hK => ?_)
  go_simp
  (with_reducible refine (HW.out).mono ?_)
  rintro e3 w3 ⟨rfl, ht⟩
  (with_reducible refine hK.out _ _ ?_)
  clear hK K HW
  obtain ⟨HM3, HK3, HP3⟩ := HM.out _ ht
  have HM3 := Lib.hid HM3
  have HK3 := Lib.hid HK3
  have HP3 := Lib.hid HP3
  clear ht HM
  refine seg_quiet 2 18 1 rfl (by kernel_rfl) (by kernel_rfl) (by kernel_rfl) (by kernel_rfl) (by kernel_rfl) (by kernel_rfl) ?_
  simp only [List.take_succ_cons, List.take_zero, List.drop_succ_cons, List.drop_zero]
  ((with_reducible refine wpStill_step (fun K hK => ?_)); go_simp; (with_reducible refine hK _ ?_); clear hK K)
  ((with_reducible refine wpStill_step (fun K hK => ?_)); go_simp; (with_reducible refine hK _ ?_); clear hK K)
  ((with_reducible refine wpStill_step (fun K hK => ?_)); go_simp; (with_reducible refine hK _ ?_); clear hK K)
  ((with_reducible refine wpStill_step (fun K hK => ?_)); go_simp; (with_reducible refine hK _ ?_); clear hK K)
  ((with_reducible refine wpStill_step (fun K hK => ?_)); go_simp; (with_reducible refine hK _ ?_); clear hK K)
  ((with_reducible refine wpStill_step (fun K hK => ?_)); go_simp; (with_reducible refine hK _ ?_); clear hK K)
  ((with_reducible refine wpStill_step (fun K hK => ?_)); go_simp; (with_reducible refine hK _ ?_); clear hK K)
  ((with_reducible refine wpStill_step (fun K hK => ?_)); go_simp; (with_reducible refine hK _ ?_); clear hK K)
  ((with_reducible refine wpStill_step (fun K hK => ?_)); go_simp; (with_reducible refine hK _ ?_); clear hK K)
  ((with_reducible refine wpStill_step (fun K hK => ?_)); go_simp; (with_reducible refine hK _ ?_); clear hK K)
  ((with_reducible refine wpStill_step (fun K hK => ?_)); go_simp; (with_reducible refine hK _ ?_); clear hK K)
  ((with_reducible refine wpStill_step (fun K hK => ?_)); go_simp; (with_reducible refine hK _ ?_); clear hK K)
  ((with_reducible refine wpStill_step (fun K hK => ?_)); go_simp; (with_reducible refine hK _ ?_); clear hK K)
  ((with_reducible refine wpStill_step (fun K hK => ?_)); go_simp; (with_reducible refine hK _ ?_); clear hK K)
  ((with_reducible refine wpStill_step (fun K hK => ?_)); go_simp; (with_reducible refine hK _ ?_); clear hK K)
  ((with_reducible refine wpStill_step (fun K hK => ?_)); go_simp; (with_reducible refine hK _ ?_); clear hK K)
  ((with_reducible refine wpStill_step (fun K hK => ?_)); go_simp; (with_reducible refine hK _ ?_); clear hK K)
  ((with_reducible refine wpStill_step (fun K hK => ?_)); go_simp; (with_reducible refine hK _ ?_); clear hK K)
  with_reducible refine wpStill_nil ?_
  refine seg_one 20 0 rfl (by kernel_rfl) (fun K hK => ?_)
  go_simp
  (with_reducible refine hK.out _ _ ?_)
  clear hK K
  refine seg_end (by kernel_rfl) ?_
  refine NoPanic.normal ?_
  go_wp2
  (try simp only [Exit.inBlock, Exit.then])
  refine bodyPost_ret (results_none rfl _ _ _) rfl ?_
  exact ⟨rfl, HM3.out, HK3.out⟩
set_option maxRecDepth 100000 in
set_option maxHeartbeats 4000000 in
theorem markFn_r (g n c x P1 P2 P3 : Nat) (M : List CC) (r : Int) (s : ByteArray) (hn : n = M.length) (hx : x < n) (w : World) (hz : ofZ r = 0) (h0 : (Ac M x).r = 0) (hT : WT w) (h : MC w g M) (hp : MarkC w P1 P2 P3 x r s) :
    Calls Tryd.prog 63 #[.slice (some ⟨g, 0, none⟩) n c, .pointer (some ⟨P1, 0, none⟩), .pointer (some ⟨P2, 0, none⟩), .pointer (some ⟨P3, 0, none⟩)] w fun e w' => e = .returned (.tuple #[]) ∧ MC w' g M ∧ KG g w w' := by
  have HW := Lib.hid (widthOf_any r w.drew ⟨hT.1, hT.2⟩)
  rw [hz] at HW
  have c1 := cell_of_row _ _ 0 _ _ _ hp.h1
  have c2 := cell_of_row _ _ 0 _ _ _ hp.h2
  have HM := Lib.hid (fun W (hb : Below w.drew.heap.size w.drew W) => (And.intro (h.past (belD hb)) ⟨(KG.refl g w).past (belD hb), hp.past (belD hb)⟩ : MC W g M ∧ KG g w W ∧ MarkC W P1 P2 P3 x r s))
  have hxn : (x : Int) < n := by have := hx; omega
  have HX := Lib.hid (show x < M.length by omega)
  clear h hp hT hz hn
  go_enter Tryd.func63, Tryd.ntmps63
  go_wp2
  refine wp_region_noPanic ?_
  refine seg_start (by kernel_rfl) ?_
  refine seg_quiet 0 1 20 rfl (by kernel_rfl) (by kernel_rfl) (by kernel_rfl) (by kernel_rfl) (by kernel_rfl) (by kernel_rfl) ?_
  simp only [List.take_succ_cons, List.take_zero, List.drop_zero]
  ((with_reducible refine wpStill_step (fun K hK => ?_)); go_simp; (with_reducible refine hK _ ?_); clear hK K)
  with_reducible refine wpStill_nil ?_
  refine seg_one 1 19 rfl (by kernel_rfl) (fun K hK => ?_)
  go_simp
  (with_reducible refine (HW.out).mono ?_)
  rintro e3 w3 ⟨rfl, ht⟩
  (with_reducible refine hK.out _ _ ?_)
  clear hK K HW
  obtain ⟨HM3, HK3, HP3⟩ := HM.out _ ht
  have HM3 := Lib.hid HM3
  have HK3 := Lib.hid HK3
  have HP3 := Lib.hid HP3
  clear ht HM
  obtain ⟨a0, _⟩ := HM3.out.at' x HX.out
  rw [h0] at a0
  clear h0
  refine seg_quiet 2 18 1 rfl (by kernel_rfl) (by kernel_rfl) (by kernel_rfl) (by kernel_rfl) (by kernel_rfl) (by kernel_rfl) ?_
  simp only [List.take_succ_cons, List.take_zero, List.drop_succ_cons, List.drop_zero]
  ((with_reducible refine wpStill_step (fun K hK => ?_)); go_simp; (with_reducible refine hK _ ?_); clear hK K)
  ((with_reducible refine wpStill_step (fun K hK => ?_)); go_simp; (with_reducible refine hK _ ?_); clear hK K)
  ((with_reducible refine wpStill_step (fun K hK => ?_)); go_simp; (with_reducible refine hK _ ?_); clear hK K)
  ((with_reducible refine wpStill_step (fun K hK => ?_)); go_simp; (with_reducible refine hK _ ?_); clear hK K)
  ((with_reducible refine wpStill_step (fun K hK => ?_)); go_simp; (with_reducible refine hK _ ?_); clear hK K)
  ((with_reducible refine wpStill_step (fun K hK => ?_)); go_simp; (with_reducible refine hK _ ?_); clear hK K)
  ((with_reducible refine wpStill_step (fun K hK => ?_)); go_simp; (with_reducible refine hK _ ?_); clear hK K)
  ((with_reducible refine wpStill_step (fun K hK => ?_)); go_simp; (with_reducible refine hK _ ?_); clear hK K)
  ((with_reducible refine wpStill_step (fun K hK => ?_)); go_simp; (with_reducible refine hK _ ?_); clear hK K)
  ((with_reducible refine wpStill_step (fun K hK => ?_)); go_simp; (with_reducible refine hK _ ?_); clear hK K)
  ((with_reducible refine wpStill_step (fun K hK => ?_)); go_simp; (with_reducible refine hK _ ?_); clear hK K)
  ((with_reducible refine wpStill_step (fun K hK => ?_)); go_simp; (with_reducible refine hK _ ?_); clear hK K)
  ((with_reducible refine wpStill_step (fun K hK => ?_)); go_simp; (with_reducible refine hK _ ?_); clear hK K)
  ((with_reducible refine wpStill_step (fun K hK => ?_)); go_simp; (with_reducible refine hK _ ?_); clear hK K)
  ((with_reducible refine wpStill_step (fun K hK => ?_)); go_simp; (with_reducible refine hK _ ?_); clear hK K)
  ((with_reducible refine wpStill_step (fun K hK => ?_)); go_simp; (with_reducible refine hK _ ?_); clear hK K)
  ((with_reducible refine wpStill_step (fun K hK => ?_)); go_simp; (with_reducible refine hK _ ?_); clear hK K)
  ((with_reducible refine wpStill_step (fun K hK => ?_)); go_simp; (with_reducible refine hK _ ?_); clear hK K)
  with_reducible refine wpStill_nil ?_
  refine seg_one 20 0 rfl (by kernel_rfl) (fun K hK => ?_)
  go_simp
  (with_reducible refine hK.out _ _ ?_)
  clear hK K
  refine seg_end (by kernel_rfl) ?_
  refine NoPanic.normal ?_
  go_wp2
  (try simp only [Exit.inBlock, Exit.then])
  refine bodyPost_ret (results_none rfl _ _ _) rfl ?_
  exact ⟨rfl, HM3.out, HK3.out⟩
set_option maxRecDepth 100000 in
set_option maxHeartbeats 4000000 in
theorem markFn_l (g n c x P1 P2 P3 : Nat) (M : List CC) (r : Int) (s : ByteArray) (hn : n = M.length) (hx : x < n) (w : World) (hz : ofZ r = 0) (h0 : ((Ac M x).r == 0) = false) (hsz : (Ac M x).m.size + s.size ≤ 9223372036854775807) (hb : 32 < (Ac M x).m.size + s.size) (hT : WT w) (h : MC w g M) (hp : MarkC w P1 P2 P3 x r s) :
    Calls Tryd.prog 63 #[.slice (some ⟨g, 0, none⟩) n c, .pointer (some ⟨P1, 0, none⟩), .pointer (some ⟨P2, 0, none⟩), .pointer (some ⟨P3, 0, none⟩)] w fun e w' => e = .returned (.tuple #[]) ∧ MC w' g M ∧ KG g w w' := by
  have HW := Lib.hid (widthOf_any r w.drew ⟨hT.1, hT.2⟩)
  rw [hz] at HW
  have c1 := cell_of_row _ _ 0 _ _ _ hp.h1
  have c2 := cell_of_row _ _ 0 _ _ _ hp.h2
  have HM := Lib.hid (fun W (hb : Below w.drew.heap.size w.drew W) => (And.intro (h.past (belD hb)) ⟨(KG.refl g w).past (belD hb), hp.past (belD hb)⟩ : MC W g M ∧ KG g w W ∧ MarkC W P1 P2 P3 x r s))
  have hxn : (x : Int) < n := by have := hx; omega
  have HX := Lib.hid (show x < M.length by omega)
  have hw1 : IntKind.i64.wrap (((Ac M x).m.size : Int) + s.size) = ((Ac M x).m.size : Int) + s.size := IntWalk.i64_in _ (by omega)
  have hd : decide ((32 : Int) < ((Ac M x).m.size : Int) + s.size) = true := decide_eq_true (by omega)
  clear h hp hT hz hn hsz hb
  go_enter Tryd.func63, Tryd.ntmps63
  go_wp2
  refine wp_region_noPanic ?_
  refine seg_start (by kernel_rfl) ?_
  refine seg_quiet 0 1 20 rfl (by kernel_rfl) (by kernel_rfl) (by kernel_rfl) (by kernel_rfl) (by kernel_rfl) (by kernel_rfl) ?_
  simp only [List.take_succ_cons, List.take_zero, List.drop_zero]
  ((with_reducible refine wpStill_step (fun K hK => ?_)); go_simp; (with_reducible refine hK _ ?_); clear hK K)
  with_reducible refine wpStill_nil ?_
  refine seg_one 1 19 rfl (by kernel_rfl) (fun K hK => ?_)
  go_simp
  (with_reducible refine (HW.out).mono ?_)
  rintro e3 w3 ⟨rfl, ht⟩
  (with_reducible refine hK.out _ _ ?_)
  clear hK K HW
  obtain ⟨HM3, HK3, HP3⟩ := HM.out _ ht
  have HM3 := Lib.hid HM3
  have HK3 := Lib.hid HK3
  have HP3 := Lib.hid HP3
  clear ht HM
  obtain ⟨a0, a1, a2, a3, a4, a5, a6, a7⟩ := HM3.out.at' x HX.out
  have c3 := cell_of_row _ _ 0 _ _ _ HP3.out.h3
  generalize Ac M x = y at *
  refine seg_quiet 2 18 1 rfl (by kernel_rfl) (by kernel_rfl) (by kernel_rfl) (by kernel_rfl) (by kernel_rfl) (by kernel_rfl) ?_
  simp only [List.take_succ_cons, List.take_zero, List.drop_succ_cons, List.drop_zero]
  ((with_reducible refine wpStill_step (fun K hK => ?_)); go_simp; (with_reducible refine hK _ ?_); clear hK K)
  ((with_reducible refine wpStill_step (fun K hK => ?_)); go_simp; (with_reducible refine hK _ ?_); clear hK K)
  ((with_reducible refine wpStill_step (fun K hK => ?_)); go_simp; (with_reducible refine hK _ ?_); clear hK K)
  ((with_reducible refine wpStill_step (fun K hK => ?_)); go_simp; (with_reducible refine hK _ ?_); clear hK K)
  ((with_reducible refine wpStill_step (fun K hK => ?_)); go_simp; (with_reducible refine hK _ ?_); clear hK K)
  ((with_reducible refine wpStill_step (fun K hK => ?_)); go_simp; (with_reducible refine hK _ ?_); clear hK K)
  ((with_reducible refine wpStill_step (fun K hK => ?_)); go_simp; (with_reducible refine hK _ ?_); clear hK K)
  ((with_reducible refine wpStill_step (fun K hK => ?_)); go_simp; (with_reducible refine hK _ ?_); clear hK K)
  ((with_reducible refine wpStill_step (fun K hK => ?_)); go_simp; (with_reducible refine hK _ ?_); clear hK K)
  ((with_reducible refine wpStill_step (fun K hK => ?_)); go_simp; (with_reducible refine hK _ ?_); clear hK K)
  ((with_reducible refine wpStill_step (fun K hK => ?_)); go_simp; (with_reducible refine hK _ ?_); clear hK K)
  ((with_reducible refine wpStill_step (fun K hK => ?_)); go_simp; (with_reducible refine hK _ ?_); clear hK K)
  ((with_reducible refine wpStill_step (fun K hK => ?_)); go_simp; (with_reducible refine hK _ ?_); clear hK K)
  ((with_reducible refine wpStill_step (fun K hK => ?_)); go_simp; (with_reducible refine hK _ ?_); clear hK K)
  ((with_reducible refine wpStill_step (fun K hK => ?_)); go_simp; (with_reducible refine hK _ ?_); clear hK K)
  ((with_reducible refine wpStill_step (fun K hK => ?_)); go_simp; (with_reducible refine hK _ ?_); clear hK K)
  ((with_reducible refine wpStill_step (fun K hK => ?_)); go_simp; (with_reducible refine hK _ ?_); clear hK K)
  ((with_reducible refine wpStill_step (fun K hK => ?_)); go_simp; (with_reducible refine hK _ ?_); clear hK K)
  with_reducible refine wpStill_nil ?_
  refine seg_one 20 0 rfl (by kernel_rfl) (fun K hK => ?_)
  go_simp
  (with_reducible refine hK.out _ _ ?_)
  clear hK K
  refine seg_end (by kernel_rfl) ?_
  refine NoPanic.normal ?_
  go_wp2
  (try simp only [Exit.inBlock, Exit.then])
  refine bodyPost_ret (results_none rfl _ _ _) rfl ?_
  exact ⟨rfl, HM3.out, HK3.out⟩
end Go.Proofs.YtoiekhjmfoodiaaDoor
