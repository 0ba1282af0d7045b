/- Pop of both rings; what 'does' makes of them: Pop. -/
import Derived.Test.YtehfejgalemhaaaOc
namespace Go.Proofs.Ytehfejgalemhaaa
open Go.RowKit

theorem T2.more {w0 w : World} {D M room : Nat} {g1 : Int} {L1 : List (Int × Bool)} {B1 B1' : Nat} {g2 : Int} {L2 : List (Int × Bool)} {B2 B2' : Nat} (h : T2 w0 w D M room g1 L1 B1 g2 L2 B2) (hb1 : B1 ≤ B1') (hb2 : B2 ≤ B2') (hc1 : B1' ≤ w.heap.size) (hc2 : B2' ≤ w.heap.size) : T2 w0 w D M room g1 L1 B1' g2 L2 B2' := by
  obtain ⟨A, c, xs, A', c', xs', h1, h2, h3, h4, h5, h6, h7, h8⟩ := h
  exact ⟨A, c, xs, A', c', xs', h1, h2, h3, ⟨h4.1, by omega, h4.2.2.1, by omega⟩, fun g e => ⟨(h5 g e).1, by have := (h5 g e).2.1; omega, (h5 g e).2.2⟩, fun g e => ⟨(h6 g e).1, by have := (h6 g e).2; omega⟩, hc1, hc2⟩
def popK (L : List (Int × Bool)) : Bool := !L.isEmpty
theorem pop_t (w0 w : World) (D M room : Nat) (g1 : Int) (L1 : List (Int × Bool)) (B1 : Nat) (g2 : Int) (L2 : List (Int × Bool)) (B2 : Nat) (h : T2 w0 w D M room g1 L1 B1 g2 L2 B2) (hl : L1.length ≤ 1000000) :
    Calls Try.prog 21 #[.pointer (some ⟨D, 0, none⟩)] w fun e w' => ∃ A n c, e = .returned (.tuple #[.agg #[.slice A n c, .bool (contO L1.getLast?)], .bool (popK L1)]) ∧ T2 w0 w' D M room g1 L1.dropLast w'.heap.size g2 L2 B2 ∧ RVo (fun _ => True) w' (.slice A n c) (.bool (contO L1.getLast?)) L1.getLast? ∧ KR w w' ∧ KB (fun i => i < B1) w w' := by
  have hT := h
  obtain ⟨A, c, xs, A', c', xs', h1, h2, h3, h4, h5, h6, h7, h8⟩ := h
  rcases List.eq_nil_or_concat L1 with rfl | ⟨L, r, hLr⟩
  · refine (pop_empty w D _ room g1 xs h1).mono fun e w' hp => ?_
    obtain ⟨rfl, hb⟩ := hp
    exact ⟨none, 0, 0, rfl, (hT.past hb).more (Nat.le_trans h7 hb.size) (Nat.le_refl _) (Nat.le_refl _) (Nat.le_trans h8 hb.size), ⟨rfl, rfl⟩, KR.of_below hb, KB.of_below hb⟩
  · rw [List.concat_eq_append] at hLr
    subst hLr
    refine (pop_some w D _ room g1 L r xs h1 (by simp at hl; omega)).mono fun e w' hp => ?_
    obtain ⟨Av, cv, ys, o1, o2, rfl, q1, q2, q3, q4⟩ := hp
    obtain ⟨b0, c0, rfl, rfl, _⟩ := q2.cells
    have e1 : (L ++ [r]).getLast? = some r := by simp
    have e2 : (L ++ [r]).dropLast = L := by simp
    have e3 : popK (L ++ [r]) = true := by simp [popK]
    rw [e1, e2, e3]
    obtain ⟨s1, s2, s3⟩ := T2.stepR h1 h2 h3 h4 h5 h6 h7 h8 q1 q3 (.inl q4)
    exact ⟨_, _, _, rfl, s1, q2, s2, s3⟩
theorem rpop_t (w0 w : World) (D M room : Nat) (g1 : Int) (L1 : List (Int × Bool)) (B1 : Nat) (g2 : Int) (L2 : List (Int × Bool)) (B2 : Nat) (h : T2 w0 w D M room g1 L1 B1 g2 L2 B2) (hl : L2.length ≤ 1000000) :
    Calls Try.prog 25 #[.pointer (some ⟨M, 0, none⟩)] w fun e w' => ∃ A n c, e = .returned (.tuple #[.agg #[.slice A n c, .bool (contO L2.getLast?)], .bool (popK L2)]) ∧ T2 w0 w' D M room g1 L1 B1 g2 L2.dropLast w'.heap.size ∧ RVo (fun _ => True) w' (.slice A n c) (.bool (contO L2.getLast?)) L2.getLast? ∧ KR w w' ∧ KB (fun i => i < B2) w w' := by
  have hT := h
  obtain ⟨A, c, xs, A', c', xs', h1, h2, h3, h4, h5, h6, h7, h8⟩ := h
  rcases List.eq_nil_or_concat L2 with rfl | ⟨L, r, hLr⟩
  · refine (rpop_empty w M _ room g2 xs' h2).mono fun e w' hp => ?_
    obtain ⟨rfl, hb⟩ := hp
    exact ⟨none, 0, 0, rfl, (hT.past hb).more (Nat.le_refl _) (Nat.le_trans h8 hb.size) (Nat.le_trans h7 hb.size) (Nat.le_refl _), ⟨rfl, rfl⟩, KR.of_below hb, KB.of_below hb⟩
  · rw [List.concat_eq_append] at hLr
    subst hLr
    refine (rpop_some w M _ room g2 L r xs' h2 (by simp at hl; omega)).mono fun e w' hp => ?_
    obtain ⟨Av, cv, ys, o1, o2, rfl, q1, q2, q3, q4⟩ := hp
    obtain ⟨b0, c0, rfl, rfl, _⟩ := q2.cells
    have e1 : (L ++ [r]).getLast? = some r := by simp
    have e2 : (L ++ [r]).dropLast = L := by simp
    have e3 : popK (L ++ [r]) = true := by simp [popK]
    rw [e1, e2, e3]
    obtain ⟨s1, s2, s3⟩ := T2.stepM h1 h2 h3 h4 h5 h6 h7 h8 q1 (q3.wide _ fun i e => .inl e) (.inr q4)
    exact ⟨_, _, _, rfl, s1, q2, s2, s3⟩

theorem KR.rv {w w' : World} (h : KR w w') {P : Nat → Prop} {u v : Value} {o : Option (Int × Bool)} (hr : RVo P w u v o) : RVo P w' u v o := h.2 P u v o hr
theorem KB.box {w w' : World} {B : Nat} {o : Obj} (h : KB (fun i => i < B) (w.alloc o) w') (hB : B ≤ w.heap.size) : w'.heap[w.heap.size]? = some o := (h.block w.heap.size (by simp) (by omega)).trans (heap_alloc_new w o)
/-- Both rings behind a step. -/
def DoesPost (w0 : World) (D M room : Nat) (g : Int) (L : List (Int × Bool)) (e : Ending) (w' : World) : Prop := e = .returned (.bool true) ∧ ∃ B1 B2, T2 w0 w' D M room g L B1 g L B2

set_option maxRecDepth 100000 in
set_option maxHeartbeats 8000000 in
theorem does_pop (w0 w : World) (D M room : Nat) (g : Int) (L : List (Int × Bool)) (B1 B2 : Nat) (h : T2 w0 w D M room g L B1 g L B2) (hl : L.length ≤ 1000000) (n : Int) :
    Calls Try.prog 10 #[.pointer (some ⟨D, 0, none⟩), .pointer (some ⟨M, 0, none⟩), .agg #[.int .i64 0, .int .i64 n]] w fun e w' => DoesPost w0 D M room g L.dropLast e w' := by
  have HP : Hid (∀ o, Calls Try.prog 21 #[.pointer (some ⟨D, 0, none⟩)] (w.alloc o) fun e w' => ∃ A n c, e = .returned (.tuple #[.agg #[.slice A n c, .bool (contO L.getLast?)], .bool (popK L)]) ∧ T2 w0 w' D M room g L.dropLast w'.heap.size g L B2 ∧ RVo (fun _ => True) w' (.slice A n c) (.bool (contO L.getLast?)) L.getLast? ∧ KR (w.alloc o) w' ∧ KB (fun i => i < B1) (w.alloc o) w') := Lib.hid fun o => pop_t w0 _ D M room g L B1 g L B2 (h.past (belA (Below.refl _ _) o)) hl
  have HRP : Hid (∀ (W : World) (Ba : Nat), T2 w0 W D M room g L.dropLast Ba g L B2 → Calls Try.prog 25 #[.pointer (some ⟨M, 0, none⟩)] W fun e w' => ∃ A n c, e = .returned (.tuple #[.agg #[.slice A n c, .bool (contO L.getLast?)], .bool (popK L)]) ∧ T2 w0 w' D M room g L.dropLast Ba g L.dropLast w'.heap.size ∧ RVo (fun _ => True) w' (.slice A n c) (.bool (contO L.getLast?)) L.getLast? ∧ KR W w' ∧ KB (fun i => i < B2) W w') := Lib.hid fun W Ba ht => rpop_t w0 W D M room g L.dropLast Ba g L B2 ht hl
  clear h hl
  generalize contO L.getLast? = q at *
  generalize popK L = ok at *
  go_enter Try.func10, Try.ntmps10
  go_wp2_with (first
    | (go_at_call 21; go_must (with_reducible refine (HP.out _).mono ?_; rintro e1 w1 ⟨A1, n1, c1, rfl, ht1, hr1, _, _⟩; have HT1 := Lib.hid ht1; have HR1 := Lib.hid hr1; clear ht1 hr1 HP))
    | (go_at_call 25; go_must (with_reducible refine (HRP.out _ _ (HT1.out.past (belA (Below.refl _ _) _))).mono ?_; rintro e2 w2 ⟨A2, n2, c2, rfl, ht2, hr2, hk2, hb2⟩; have HT2 := Lib.hid ht2; have HR2 := Lib.hid hr2; have HR1' := Lib.hid (hk2.rv (HR1.out.past (belA (Below.refl _ _) _))); have hh := hb2.box HT1.out.sizes.2; have b0 := cell_of_row _ _ 0 _ _ _ hh; have b1 := cell_of_row _ _ 1 _ _ _ hh; have hlt7 := (Array.getElem?_eq_some_iff.1 hh).1; clear ht2 hr2 hk2 hb2 hh HT1 HR1 HRP))
    | (go_at_call 20; go_must (with_reducible refine (one_any _ _ _ _ L.getLast? _ (HR1'.out.past (belA (Below.refl _ _) _)) (HR2.out.past (belA (Below.refl _ _) _))).mono ?_; rintro e3 w3 ⟨rfl, hb3⟩; have HF := Lib.hid (HT2.out.past (bel1 (Below.refl _ _) hb3)); clear hb3 HT2)))
  go_ret
  exact ⟨rfl, _, _, HF.out⟩
end Go.Proofs.Ytehfejgalemhaaa
