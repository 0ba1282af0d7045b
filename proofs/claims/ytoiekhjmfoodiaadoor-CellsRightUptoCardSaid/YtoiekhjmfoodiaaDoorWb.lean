/- The walk of width.Of: its answer at every number; nothing that lay has turned. -/
import Derived.Test.YtoiekhjmfoodiaaDoorWa
namespace Go.Proofs.YtoiekhjmfoodiaaDoor
open Go.RowKit

def inL (l : List (Int × Int)) (r : Int) : Bool := l.any fun x => hasB x.1 x.2 r
def noneB (r : Int) : Bool := decide (r < 32 ∨ (127 ≤ r ∧ r ≤ 159) ∨ (55296 ≤ r ∧ r ≤ 57343) ∨ 1114111 < r)
/-- A number's width. -/
def ofZ (r : Int) : Int := if noneB r then -1 else if r < 768 then 1 else if inL marksL r then 0 else if inL widesL r then 2 else 1
set_option maxRecDepth 100000 in
theorem any_range {α : Type} (d : α) (f : α → Bool) : ∀ l : List α, (List.range l.length).any (fun k => f (l[k]?.getD d)) = l.any f
  | [] => rfl
  | x :: l => by
    have h := any_range d f l
    rw [List.length_cons, List.range_succ_eq_map, List.any_cons, List.any_map, List.any_cons, ← h]
    rfl
def validB (r : Int) : Bool := decide ((0 ≤ r ∧ r < 55296) ∨ (57343 < r ∧ r ≤ 1114111))

set_option maxHeartbeats 400000 in
set_option maxRecDepth 100000 in
theorem valid_any (r : Int) (w : World) :
    Calls Tryd.prog 67 #[.int .i32 r] w fun e w' => e = .returned (.bool (validB r)) ∧ w = w' := by
  go_enter Tryd.func67, Tryd.ntmps67
  go_wp2
  all_goals
    go_ret
    refine ⟨?_, rfl⟩
    first
      | (have e : validB r = true := decide_eq_true (by omega); rw [e]; rfl)
      | (have e : validB r = false := decide_eq_false (by omega); rw [e]; rfl)

set_option maxHeartbeats 400000 in
set_option maxRecDepth 100000 in
theorem marks_any (b : Nat) (r : Int) (w : World) (ht : Tab w 0 marksL) (hb : b < w.heap.size) (hc : w.cell? ⟨b, 0, none⟩ = some (.int .i32 r)) :
    Calls Tryd.prog 68 #[.int .i64 19, .func (.func 69) #[] #[.pointer (some ⟨b, 0, none⟩)]] w fun e w' =>
      e = .returned (.bool (inL marksL r)) ∧ Below w.heap.size w w' := by
  have h := some1_any (.pointer (some ⟨b, 0, none⟩)) 19 (by decide) (fun k => hasB (marksL[k]?.getD (0, 0)).1 (marksL[k]?.getD (0, 0)).2 r) w
    (fun k hk W hB => of1_any k b r W hk (ht.below hB ht.1) ((hB.cell (p := ⟨b, 0, none⟩) hb).trans hc))
  have e := any_range (0, 0) (fun x : Int × Int => hasB x.1 x.2 r) marksL
  rw [show marksL.length = 19 from rfl] at e
  rw [e] at h
  exact h

set_option maxHeartbeats 400000 in
set_option maxRecDepth 100000 in
theorem wides_any (b : Nat) (r : Int) (w : World) (ht : Tab w 1 widesL) (hb : b < w.heap.size) (hc : w.cell? ⟨b, 0, none⟩ = some (.int .i32 r)) :
    Calls Tryd.prog 68 #[.int .i64 22, .func (.func 71) #[] #[.pointer (some ⟨b, 0, none⟩)]] w fun e w' =>
      e = .returned (.bool (inL widesL r)) ∧ Below w.heap.size w w' := by
  have h := some2_any (.pointer (some ⟨b, 0, none⟩)) 22 (by decide) (fun k => hasB (widesL[k]?.getD (0, 0)).1 (widesL[k]?.getD (0, 0)).2 r) w
    (fun k hk W hB => of2_any k b r W hk (ht.below hB ht.1) ((hB.cell (p := ⟨b, 0, none⟩) hb).trans hc))
  have e := any_range (0, 0) (fun x : Int × Int => hasB x.1 x.2 r) widesL
  rw [show widesL.length = 22 from rfl] at e
  rw [e] at h
  exact h

set_option maxHeartbeats 400000 in
set_option maxRecDepth 100000 in
theorem of_none (r : Int) (w : World) (h : noneB r = true) :
    Calls Tryd.prog 47 #[.int .i32 r] w fun e w' => e = .returned (.int .i64 (ofZ r)) ∧ Below w.heap.size w w' := by
  have hz : Hid (ofZ r = -1) := by unfold ofZ; rw [h]; rfl
  have h' : r < 32 ∨ (127 ≤ r ∧ r ≤ 159) ∨ (55296 ≤ r ∧ r ≤ 57343) ∨ 1114111 < r := of_decide_eq_true h
  clear h
  have hv := valid_any r
  cases hq : validB r with
  | false =>
    rw [hq] at hv
    clear hq h'
    go_enter Tryd.func47, Tryd.ntmps47
    go_wp2_with (go_at_call 67; refine (hv _).mono ?_; rintro e w' ⟨rfl, rfl⟩)
    go_ret
    exact ⟨by rw [hz.out]; rfl, (Below.refl _ _).alloc (Nat.le_refl _) _⟩
  | true =>
    rw [hq] at hv
    have hq' : (0 ≤ r ∧ r < 55296) ∨ (57343 < r ∧ r ≤ 1114111) := of_decide_eq_true hq
    clear hq
    by_cases h1 : r < 32
    · clear h' hq'
      go_enter Tryd.func47, Tryd.ntmps47
      go_wp2_with (go_at_call 67; refine (hv _).mono ?_; rintro e w' ⟨rfl, rfl⟩)
      go_ret
      exact ⟨by rw [hz.out]; rfl, (Below.refl _ _).alloc (Nat.le_refl _) _⟩
    · have h2 : 127 ≤ r := by omega
      have h3 : r ≤ 159 := by omega
      clear h' hq'
      go_enter Tryd.func47, Tryd.ntmps47
      go_wp2_with (go_at_call 67; refine (hv _).mono ?_; rintro e w' ⟨rfl, rfl⟩)
      go_ret
      exact ⟨by rw [hz.out]; rfl, (Below.refl _ _).alloc (Nat.le_refl _) _⟩

set_option maxHeartbeats 400000 in
set_option maxRecDepth 100000 in
theorem of_some (r : Int) (w : World) (h : noneB r = false) (ht : Tab w 0 marksL) (hu : Tab w 1 widesL) :
    Calls Tryd.prog 47 #[.int .i32 r] w fun e w' => e = .returned (.int .i64 (ofZ r)) ∧ Below w.heap.size w w' := by
  have h' : ¬ (r < 32 ∨ (127 ≤ r ∧ r ≤ 159) ∨ (55296 ≤ r ∧ r ≤ 57343) ∨ 1114111 < r) := of_decide_eq_false h
  have hv := valid_any r
  have hq : validB r = true := decide_eq_true (by omega)
  rw [hq] at hv
  clear hq
  by_cases h1 : r < 768
  · have hz : Hid (ofZ r = 1) := by unfold ofZ; rw [h, if_pos h1]; rfl
    have h32 : 32 ≤ r := by omega
    clear h
    by_cases h2 : 127 ≤ r
    · have h3 : 159 < r := by omega
      clear h'
      go_enter Tryd.func47, Tryd.ntmps47
      go_wp2_with (go_at_call 67; refine (hv _).mono ?_; rintro e w' ⟨rfl, rfl⟩)
      go_ret
      exact ⟨by rw [hz.out]; rfl, (Below.refl _ _).alloc (Nat.le_refl _) _⟩
    · clear h'
      go_enter Tryd.func47, Tryd.ntmps47
      go_wp2_with (go_at_call 67; refine (hv _).mono ?_; rintro e w' ⟨rfl, rfl⟩)
      go_ret
      exact ⟨by rw [hz.out]; rfl, (Below.refl _ _).alloc (Nat.le_refl _) _⟩
  · have hz : Hid (ofZ r = if inL marksL r then 0 else if inL widesL r then 2 else 1) := by unfold ofZ; rw [h, if_neg h1]; rfl
    have h32 : 768 ≤ r := by omega
    clear h h' h1
    have hm := marks_any w.heap.size r (w.alloc (.cells #[.int .i32 r] 21)) (ht.alloc _) (by simp) (by simp)
    have hB0 : Below w.heap.size w (w.alloc (.cells #[.int .i32 r] 21)) := (Below.refl _ _).alloc (Nat.le_refl _) _
    have hw : ∀ w1, Below (w.alloc (.cells #[.int .i32 r] 21)).heap.size (w.alloc (.cells #[.int .i32 r] 21)) w1 → Calls Tryd.prog 68 #[.int .i64 22, .func (.func 71) #[] #[.pointer (some ⟨w.heap.size, 0, none⟩)]] w1 fun e w' =>
      e = .returned (.bool (inL widesL r)) ∧ Below w1.heap.size w1 w' := fun w1 hB => by
      have hs : w.heap.size < (w.alloc (.cells #[.int .i32 r] 21)).heap.size := by simp
      exact wides_any w.heap.size r w1 ((hu.alloc _).below hB (hu.alloc _).1) (Nat.lt_of_lt_of_le hs hB.size) ((hB.cell (p := ⟨w.heap.size, 0, none⟩) hs).trans (by simp))
    clear ht hu
    cases e1 : inL marksL r with
    | true =>
      rw [e1] at hm hz
      clear e1 hw
      go_enter Tryd.func47, Tryd.ntmps47
      go_wp2_with (first | (go_at_call 67; refine (hv _).mono ?_; rintro e w' ⟨rfl, rfl⟩) | (go_at_call 68; refine hm.mono ?_; rintro e w' ⟨rfl, hb'⟩))
      go_ret
      exact ⟨by rw [hz.out]; rfl, hB0.trans (hb'.mono (by simp))⟩
    | false =>
      rw [e1] at hm hz
      clear e1
      cases e2 : inL widesL r with
      | true =>
        rw [e2] at hw hz
        clear e2
        have HW := Lib.hid hw
        clear hw
        go_enter Tryd.func47, Tryd.ntmps47
        go_wp2_with (first | (go_at_call 67; refine (hv _).mono ?_; rintro e w' ⟨rfl, rfl⟩) | (go_at_call 68; refine hm.mono ?_; clear hm; rintro e w' ⟨rfl, hb'⟩) | (go_at_call 68; refine (HW.out _ hb').mono ?_; rintro e w' ⟨rfl, hb''⟩))
        go_ret
        exact ⟨by rw [hz.out]; rfl, (hB0.trans (hb'.mono (by simp))).trans (hb''.mono (Nat.le_trans hB0.size hb'.size))⟩
      | false =>
        rw [e2] at hw hz
        clear e2
        have HW := Lib.hid hw
        clear hw
        go_enter Tryd.func47, Tryd.ntmps47
        go_wp2_with (first | (go_at_call 67; refine (hv _).mono ?_; rintro e w' ⟨rfl, rfl⟩) | (go_at_call 68; refine hm.mono ?_; clear hm; rintro e w' ⟨rfl, hb'⟩) | (go_at_call 68; refine (HW.out _ hb').mono ?_; rintro e w' ⟨rfl, hb''⟩))
        go_ret
        exact ⟨by rw [hz.out]; rfl, (hB0.trans (hb'.mono (by simp))).trans (hb''.mono (Nat.le_trans hB0.size hb'.size))⟩

set_option maxRecDepth 100000 in
theorem of_any (r : Int) (w : World) (ht : Tab w 0 marksL) (hu : Tab w 1 widesL) :
    Calls Tryd.prog 47 #[.int .i32 r] w fun e w' => e = .returned (.int .i64 (ofZ r)) ∧ Below w.heap.size w w' := by
  cases h : noneB r with
  | true => exact of_none r w h
  | false => exact of_some r w h ht hu

end Go.Proofs.YtoiekhjmfoodiaaDoor
