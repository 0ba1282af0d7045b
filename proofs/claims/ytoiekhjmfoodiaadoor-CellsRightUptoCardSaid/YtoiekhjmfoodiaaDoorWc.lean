/- The walks of the document's answer for widths: in, Marks, Wides, Of. -/
import Derived.Test.YtoiekhjmfoodiaaDoorWb
namespace Go.Proofs.YtoiekhjmfoodiaaDoor
open Go.RowKit

def flatV (l : List (Int × Int)) : List Value := l.flatMap fun x => [.int .i32 x.1, .int .i32 x.2]
set_option maxRecDepth 100000 in
theorem flatV_at : ∀ (l : List (Int × Int)) (k : Nat), k < l.length → (flatV l)[k * 2]? = some (.int .i32 (l[k]?.getD (0, 0)).1) ∧ (flatV l)[k * 2 + 1]? = some (.int .i32 (l[k]?.getD (0, 0)).2)
  | [], k, h => absurd h (by simp)
  | x :: l, 0, _ => ⟨rfl, rfl⟩
  | x :: l, k + 1, h => by
    have := flatV_at l k (by simpa using h)
    have e1 : (k + 1) * 2 = k * 2 + 1 + 1 := by omega
    rw [e1]
    exact this
set_option maxRecDepth 100000 in
theorem tab_new (w : World) (l : List (Int × Int)) (t : TypeId) : Tab (w.alloc (.cells (flatV l).toArray t)) w.heap.size l :=
  ⟨by simp, fun k hk => by
    have h := flatV_at l k hk
    exact ⟨(cell_of_row _ _ _ _ _ _ (heap_alloc_new w _)).trans (by simpa using h.1), (cell_of_row _ _ _ _ _ _ (heap_alloc_new w _)).trans (by simpa using h.2)⟩⟩

set_option maxRecDepth 100000 in
theorem hasB_no {lo hi r : Int} (h : ¬ lo ≤ r) : hasB lo hi r = false := by simp [hasB]; omega
set_option maxRecDepth 100000 in
theorem hasB_no' {lo hi r : Int} (h : ¬ r ≤ hi) : hasB lo hi r = false := by simp [hasB]; omega
set_option maxRecDepth 100000 in
theorem hasB_yes {lo hi r : Int} (h : lo ≤ r) (h' : r ≤ hi) : hasB lo hi r = true := by simp [hasB, h, h']

set_option maxHeartbeats 400000 in
set_option maxRecDepth 100000 in
theorem in_any (l : List (Int × Int)) (hl : l.length ≤ 1000) (g : Nat) (r : Int) (w : World) (ht : Tab w g l) :
    Calls Tryd.prog 54 #[.slice (some ⟨g, 0, none⟩) (l.length * 2) (l.length * 2), .int .i32 r] w fun e w' =>
      e = .returned (.bool (inL l r)) ∧ w = w' := by
  obtain ⟨n, hn⟩ : ∃ n, n = l.length := ⟨_, rfl⟩
  have HT : Hid (∀ k, k < n → w.cell? ⟨g, k * 2, none⟩ = some (.int .i32 (l[k]?.getD (0, 0)).1) ∧ w.cell? ⟨g, k * 2 + 1, none⟩ = some (.int .i32 (l[k]?.getD (0, 0)).2)) := by rw [hn]; exact ht.2
  have HE : Hid (inL l r = (List.range n).any (fun k => hasB (l[k]?.getD (0, 0)).1 (l[k]?.getD (0, 0)).2 r)) := by
    rw [hn]; exact (any_range (0, 0) (fun x : Int × Int => hasB x.1 x.2 r) l).symm
  rw [← hn] at hl ⊢
  clear ht hn
  go_enter Tryd.func54, Tryd.ntmps54
  go_wp2
  go_loop [5] (fun i => ∃ k : Nat, k ≤ n ∧ i = .int .i64 (k * 2 : Nat) ∧ Hid ((List.range k).any (fun k => hasB (l[k]?.getD (0, 0)).1 (l[k]?.getD (0, 0)).2 r) = false)) (fun i => n * 2 - (intOf i).toNat)
  case atStart => exact ⟨0, Nat.zero_le _, rfl, Lib.hid rfl⟩
  case round =>
    obtain ⟨k, hk, rfl, HP⟩ := hrel
    by_cases hlt : k < n
    · obtain ⟨h1, h2⟩ := HT.out k hlt
      have HN : Hid (hasB (l[k]?.getD (0, 0)).1 (l[k]?.getD (0, 0)).2 r = false → (List.range (k + 1)).any (fun k => hasB (l[k]?.getD (0, 0)).1 (l[k]?.getD (0, 0)).2 r) = false) := Lib.hid fun h => by
        rw [List.range_succ, List.any_append, HP.out]; simpa using h
      have HY : Hid (hasB (l[k]?.getD (0, 0)).1 (l[k]?.getD (0, 0)).2 r = true → inL l r = true) := Lib.hid fun h => by
        rw [HE.out]; exact List.any_eq_true.2 ⟨k, List.mem_range.2 hlt, h⟩
      clear HP HE HT
      generalize (l[k]?.getD (0, 0)).1 = lo at *
      generalize (l[k]?.getD (0, 0)).2 = hi at *
      by_cases hlo : lo ≤ r
      · by_cases hhi : r ≤ hi
        · have HZ := Lib.hid (HY.out (hasB_yes hlo hhi))
          clear HY HN
          go_wp2
          go_ret
          exact ⟨by rw [HZ.out]; rfl, rfl⟩
        · have HZ := Lib.hid (HN.out (hasB_no' hhi))
          clear HY HN
          go_wp2
          go_round
          case rel => exact ⟨k + 1, hlt, by go_num, HZ⟩
          case measure => simp [intOf]; omega
      · have HZ := Lib.hid (HN.out (hasB_no hlo))
        clear HY HN
        go_wp2
        go_round
        case rel => exact ⟨k + 1, hlt, by go_num, HZ⟩
        case measure => simp [intOf]; omega
    · have : k = n := by omega
      subst this
      have HZ : Hid (inL l r = false) := Lib.hid (HE.out.trans HP.out)
      clear HP HE HT
      go_wp2
      go_ret
      exact ⟨by rw [HZ.out]; rfl, rfl⟩

set_option maxHeartbeats 400000 in
set_option maxRecDepth 100000 in
theorem marksFn_any (w : World) :
    Calls Tryd.prog 55 #[] w fun e w' => e = .returned (.slice (some ⟨w.heap.size, 0, none⟩) 38 38) ∧ Tab w' w.heap.size marksL ∧ Below w.heap.size w w' := by
  go_enter Tryd.func55, Tryd.ntmps55
  go_wp2
  go_ret
  exact ⟨rfl, tab_new w marksL 21, (Below.refl _ _).alloc (Nat.le_refl _) _⟩
set_option maxRecDepth 100000 in
theorem in_marksL (g : Nat) (r : Int) (b : Bool) (hb : inL marksL r = b) (w : World) (ht : Tab w g marksL) :
    Calls Tryd.prog 54 #[.slice (some ⟨g, 0, none⟩) 38 38, .int .i32 r] w fun e w' => e = .returned (.bool b) ∧ w = w' := by
  subst hb
  exact in_any marksL (by decide) g r w ht

set_option maxHeartbeats 400000 in
set_option maxRecDepth 100000 in
theorem widesFn_any (w : World) :
    Calls Tryd.prog 56 #[] w fun e w' => e = .returned (.slice (some ⟨w.heap.size, 0, none⟩) 44 44) ∧ Tab w' w.heap.size widesL ∧ Below w.heap.size w w' := by
  go_enter Tryd.func56, Tryd.ntmps56
  go_wp2
  go_ret
  exact ⟨rfl, tab_new w widesL 21, (Below.refl _ _).alloc (Nat.le_refl _) _⟩
set_option maxRecDepth 100000 in
theorem in_widesL (g : Nat) (r : Int) (b : Bool) (hb : inL widesL r = b) (w : World) (ht : Tab w g widesL) :
    Calls Tryd.prog 54 #[.slice (some ⟨g, 0, none⟩) 44 44, .int .i32 r] w fun e w' => e = .returned (.bool b) ∧ w = w' := by
  subst hb
  exact in_any widesL (by decide) g r w ht

/-- Both tables lie where the program's variables lie. -/
def WT (w : World) : Prop := Tab w 0 marksL ∧ Tab w 1 widesL
set_option maxRecDepth 100000 in
theorem WT.below {w w' : World} (h : WT w) (hb : Below w.heap.size w w') : WT w' := ⟨h.1.below hb h.1.1, h.2.below hb h.2.1⟩
set_option maxRecDepth 100000 in
theorem WT.from {w w' : World} {B : Nat} (h : WT w) (hb : Below B w w') (h0 : 2 ≤ B) : WT w' := ⟨h.1.below hb (by omega), h.2.below hb (by omega)⟩

set_option maxRecDepth 100000 in
theorem widthOf_any (r : Int) (w : World) (hT : WT w) :
    Calls Tryd.prog 47 #[.int .i32 r] w fun e w' => e = .returned (.int .i64 (ofZ r)) ∧ Below w.heap.size w w' :=
  of_any r w hT.1 hT.2
set_option maxRecDepth 100000 in
theorem ofZ_bd (r : Int) : -1 ≤ ofZ r ∧ ofZ r ≤ 2 := by
  unfold ofZ
  split
  · decide
  · split
    · decide
    · split
      · decide
      · split <;> decide

set_option maxHeartbeats 400000 in
set_option maxRecDepth 100000 in
theorem ref_none (r : Int) (w : World) (h : noneB r = true) :
    Calls Tryd.prog 27 #[.int .i32 r] w fun e w' => e = .returned (.int .i64 (ofZ r)) ∧ Below w.heap.size w w' := by
  have hz : Hid (ofZ r = -1) := by unfold ofZ; rw [h]; rfl
  have h' : r < 32 ∨ (127 ≤ r ∧ r ≤ 159) ∨ (55296 ≤ r ∧ r ≤ 57343) ∨ 1114111 < r := of_decide_eq_true h
  clear h
  by_cases h1 : r < 32
  · clear h'
    go_enter Tryd.func27, Tryd.ntmps27
    go_wp2
    go_ret
    exact ⟨by rw [hz.out]; rfl, Below.refl _ _⟩
  by_cases h2 : r < 160
  · have h3 : 126 < r := by omega
    clear h'
    go_enter Tryd.func27, Tryd.ntmps27
    go_wp2
    go_ret
    exact ⟨by rw [hz.out]; rfl, Below.refl _ _⟩
  by_cases h4 : r < 57344
  · have h3 : 55295 < r := by omega
    clear h'
    go_enter Tryd.func27, Tryd.ntmps27
    go_wp2
    go_ret
    exact ⟨by rw [hz.out]; rfl, Below.refl _ _⟩
  have h5 : 1114111 < r := by omega
  clear h'
  go_enter Tryd.func27, Tryd.ntmps27
  go_wp2
  go_ret
  exact ⟨by rw [hz.out]; rfl, Below.refl _ _⟩

set_option maxHeartbeats 1000000 in
set_option maxRecDepth 100000 in
theorem ref_some (r : Int) (w : World) (h : noneB r = false) :
    Calls Tryd.prog 27 #[.int .i32 r] w fun e w' => e = .returned (.int .i64 (ofZ r)) ∧ Below w.heap.size w w' := by
  have h' : ¬ (r < 32 ∨ (127 ≤ r ∧ r ≤ 159) ∨ (55296 ≤ r ∧ r ≤ 57343) ∨ 1114111 < r) := of_decide_eq_false h
  have hz : Hid (ofZ r = if inL marksL r then 0 else if inL widesL r then 2 else 1) := by
    unfold ofZ
    rw [h]
    by_cases h1 : r < 768
    · have e1 : inL marksL r = false := by simp [inL, marksL, hasB]; omega
      have e2 : inL widesL r = false := by simp [inL, widesL, hasB]; omega
      rw [if_pos h1, e1, e2]; rfl
    · rw [if_neg h1]; rfl
  have h1 : ¬ r < 32 := by omega
  have h2 : ¬ 1114111 < r := by omega
  clear h
  have HM : ∀ (_ : r ≤ 126 ∨ 160 ≤ r) (_ : r ≤ 55295 ∨ 57344 ≤ r), Calls Tryd.prog 27 #[.int .i32 r] w fun e w' => e = .returned (.int .i64 (ofZ r)) ∧ Below w.heap.size w w' := by
    clear h'
    intro hA hC
    rcases hA with hA | hA <;> rcases hC with hC | hC
    all_goals try (exfalso; omega)
    all_goals
      cases e1' : inL marksL r with
      | true =>
        rw [e1'] at hz
        have e1 := Lib.hid e1'
        clear e1'
        go_enter Tryd.func27, Tryd.ntmps27
        go_wp2_with (first | (go_at_call 55; refine (marksFn_any _).mono ?_; rintro e w1 ⟨rfl, ht1, hb1⟩) | (go_at_call 54; refine (in_marksL _ r true e1.out _ ht1).mono ?_; clear ht1; rintro e w' ⟨rfl, rfl⟩))
        go_ret
        exact ⟨by rw [hz.out]; rfl, hb1⟩
      | false =>
        rw [e1'] at hz
        have e1 := Lib.hid e1'
        clear e1'
        cases e2' : inL widesL r with
        | true =>
          rw [e2'] at hz
          have e2 := Lib.hid e2'
          clear e2'
          go_enter Tryd.func27, Tryd.ntmps27
          go_wp2_with (first | (go_at_call 55; refine (marksFn_any _).mono ?_; rintro e w1 ⟨rfl, ht1, hb1⟩) | (go_at_call 54; refine (in_marksL _ r false e1.out _ ht1).mono ?_; clear ht1; rintro e w' ⟨rfl, rfl⟩) | (go_at_call 56; refine (widesFn_any _).mono ?_; rintro e w2 ⟨rfl, ht2, hb2⟩) | (go_at_call 54; refine (in_widesL _ r true e2.out _ ht2).mono ?_; clear ht2; rintro e w' ⟨rfl, rfl⟩))
          go_ret
          exact ⟨by rw [hz.out]; rfl, (hb1.trans (hb2.mono hb1.size))⟩
        | false =>
          rw [e2'] at hz
          have e2 := Lib.hid e2'
          clear e2'
          go_enter Tryd.func27, Tryd.ntmps27
          go_wp2_with (first | (go_at_call 55; refine (marksFn_any _).mono ?_; rintro e w1 ⟨rfl, ht1, hb1⟩) | (go_at_call 54; refine (in_marksL _ r false e1.out _ ht1).mono ?_; clear ht1; rintro e w' ⟨rfl, rfl⟩) | (go_at_call 56; refine (widesFn_any _).mono ?_; rintro e w2 ⟨rfl, ht2, hb2⟩) | (go_at_call 54; refine (in_widesL _ r false e2.out _ ht2).mono ?_; clear ht2; rintro e w' ⟨rfl, rfl⟩))
          go_ret
          exact ⟨by rw [hz.out]; rfl, (hb1.trans (hb2.mono hb1.size))⟩
  exact HM (by omega) (by omega)

set_option maxRecDepth 100000 in
theorem refOf_any (r : Int) (w : World) :
    Calls Tryd.prog 27 #[.int .i32 r] w fun e w' => e = .returned (.int .i64 (ofZ r)) ∧ Below w.heap.size w w' := by
  cases h : noneB r with
  | true => exact ref_none r w h
  | false => exact ref_some r w h

end Go.Proofs.YtoiekhjmfoodiaaDoor
