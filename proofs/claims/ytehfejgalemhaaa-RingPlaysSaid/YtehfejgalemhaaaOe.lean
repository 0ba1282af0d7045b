/- Push of both rings; what 'does' makes of them: Push, Clear. -/
import Derived.Test.YtehfejgalemhaaaOd
namespace Go.Proofs.Ytehfejgalemhaaa
open Go.RowKit

theorem push_t {P2 : Nat → Prop} (w0 w : World) (D M room : Nat) (g1 : Int) (L1 : List (Int × Bool)) (B1 : Nat) (g2 : Int) (L2 : List (Int × Bool)) (B2 : Nat) (h : T2 w0 w D M room g1 L1 B1 g2 L2 B2) (r : Int × Bool) (v1 v2 : Value) (hr : RV P2 w v1 v2 r) (hl : L1.length ≤ 1000000) (hroom : room ≤ 1000000) :
    Calls Try.prog 16 #[.pointer (some ⟨D, 0, none⟩), .agg #[v1, v2]] w fun e w' => ∃ A n c, e = .returned (.tuple #[.agg #[.slice A n c, .bool (contO (pushO room L1 r))], .bool (okZ room L1)]) ∧ T2 w0 w' D M room (pushG room g1 L1) (pushL room L1 r) w'.heap.size g2 L2 B2 ∧ RVo (fun _ => True) w' (.slice A n c) (.bool (contO (pushO room L1 r))) (pushO room L1 r) ∧ KR w w' ∧ KB (fun i => i < B1) w w' := by
  obtain ⟨A, c, xs, A', c', xs', h1, h2, h3, h4, h5, h6, h7, h8⟩ := h
  refine (push_any w D _ v1 v2 room g1 L1 xs r h1 (fun _ _ => trivial) hr hl hroom).mono fun e w' hp => ?_
  obtain ⟨Av, cv, gone', L', ys, o1, o2, ok, rfl, q1, q2, q3, q4⟩ := hp
  obtain ⟨s1, s2, s3⟩ := T2.stepR h1 h2 h3 h4 h5 h6 h7 h8 q1 q2 (q3.imp id fun ⟨g', e', hg'⟩ g e => by rw [e'] at e; injection e with e; omega)
  rcases q4 with ⟨f1, rfl, rfl, rfl, rfl, rfl⟩ | ⟨f1, rfl, rfl, rfl, f5⟩
  · have e1 : okZ room L1 = false := by unfold okZ; simp [f1]
    have e2 : pushO room L1 r = none := if_pos f1
    have e3 : pushL room L1 r = L1 ++ [r] := if_pos f1
    have e4 : pushG room gone' L1 = gone' := if_pos f1
    rw [e1, e2, e3, e4]
    exact ⟨none, 0, 0, rfl, s1, ⟨rfl, rfl⟩, s2, s3⟩
  · have f1' : ¬ L1.length + 1 ≤ room := by omega
    have e1 : okZ room L1 = true := by unfold okZ; simp; omega
    have e2 : pushO room L1 r = some ((L1 ++ [r]).headD (0, false)) := if_neg f1'
    have e3 : pushL room L1 r = (L1 ++ [r]).tail := if_neg f1'
    have e4 : pushG room g1 L1 = IntKind.u64.wrap (g1 + 1) := if_neg f1'
    rw [e1, e2, e3, e4]
    obtain ⟨b0, c0, rfl, rfl, _⟩ := f5.cells
    exact ⟨_, _, _, rfl, s1, f5, s2, s3⟩
theorem rpush_t {P2 : Nat → Prop} (w0 w : World) (D M room : Nat) (g1 : Int) (L1 : List (Int × Bool)) (B1 : Nat) (g2 : Int) (L2 : List (Int × Bool)) (B2 : Nat) (h : T2 w0 w D M room g1 L1 B1 g2 L2 B2) (r : Int × Bool) (v1 v2 : Value) (hr : RV P2 w v1 v2 r) (hl : L2.length ≤ 1000000) :
    Calls Try.prog 18 #[.pointer (some ⟨M, 0, none⟩), .agg #[v1, v2]] w fun e w' => ∃ A n c, e = .returned (.tuple #[.agg #[.slice A n c, .bool (contO (pushO room L2 r))], .bool (okZ room L2)]) ∧ T2 w0 w' D M room g1 L1 B1 (pushG room g2 L2) (pushL room L2 r) w'.heap.size ∧ RVo (fun _ => True) w' (.slice A n c) (.bool (contO (pushO room L2 r))) (pushO room L2 r) ∧ KR w w' ∧ KB (fun i => i < B2) w w' := by
  obtain ⟨A, c, xs, A', c', xs', h1, h2, h3, h4, h5, h6, h7, h8⟩ := h
  refine (rpush_any w M _ v1 v2 room g2 L2 xs' r h2 (hr.mono fun _ _ _ => trivial) hl).mono fun e w' hp => ?_
  obtain ⟨Av, cv, gone', L', ys, o1, o2, ok, rfl, q1, q2, q3, q4⟩ := hp
  obtain ⟨s1, s2, s3⟩ := T2.stepM h1 h2 h3 h4 h5 h6 h7 h8 q1 q2 q3
  rcases q4 with ⟨f1, rfl, rfl, rfl, rfl, rfl⟩ | ⟨f1, rfl, rfl, rfl, f5⟩
  · have e1 : okZ room L2 = false := by unfold okZ; simp [f1]
    have e2 : pushO room L2 r = none := if_pos f1
    have e3 : pushL room L2 r = L2 ++ [r] := if_pos f1
    have e4 : pushG room gone' L2 = gone' := if_pos f1
    rw [e1, e2, e3, e4]
    exact ⟨none, 0, 0, rfl, s1, ⟨rfl, rfl⟩, s2, s3⟩
  · have f1' : ¬ L2.length + 1 ≤ room := by omega
    have e1 : okZ room L2 = true := by unfold okZ; simp; omega
    have e2 : pushO room L2 r = some ((L2 ++ [r]).headD (0, false)) := if_neg f1'
    have e3 : pushL room L2 r = (L2 ++ [r]).tail := if_neg f1'
    have e4 : pushG room g2 L2 = IntKind.u64.wrap (g2 + 1) := if_neg f1'
    rw [e1, e2, e3, e4]
    obtain ⟨b0, c0, rfl, rfl, _⟩ := f5.cells
    exact ⟨_, _, _, rfl, s1, f5, s2, s3⟩

set_option maxRecDepth 100000 in
set_option maxHeartbeats 8000000 in
theorem does_push (w0 w : World) (D M room : Nat) (g : Int) (L : List (Int × Bool)) (B1 B2 : Nat) (h : T2 w0 w D M room g L B1 g L B2) (hl : L.length ≤ 1000000) (hroom : room ≤ 1000000) (k n : Int) (h0 : ¬ k = 0) (h1 : ¬ k = 1) (h2 : ¬ k = 2) (h3 : ¬ k = 3) (h4 : ¬ k = 4) :
    Calls Try.prog 10 #[.pointer (some ⟨D, 0, none⟩), .pointer (some ⟨M, 0, none⟩), .agg #[.int .i64 k, .int .i64 n]] w fun e w' => DoesPost w0 D M room (pushG room g L) (pushL room L (rowZ (n.tmod 1000))) e w' := by
  have hmod : -2147483648 ≤ n.tmod 1000 ∧ n.tmod 1000 ≤ 2147483647 := by
    have h1 := Int.tmod_lt_of_pos n (show (0 : Int) < 1000 by decide)
    have h2 := Int.lt_tmod_of_pos n (show (0 : Int) < 1000 by decide)
    omega
  have HROW : Hid (∀ W, Calls Try.prog 17 #[.int .i64 (n.tmod 1000)] W fun e w' => ∃ g c, e = .returned (.agg #[.slice (some ⟨g, 0, none⟩) 1 c, .bool (rowZ (n.tmod 1000)).2]) ∧ Below W.heap.size W w' ∧ RV (fun _ => True) w' (.slice (some ⟨g, 0, none⟩) 1 c) (.bool (rowZ (n.tmod 1000)).2) (rowZ (n.tmod 1000))) := Lib.hid fun W => row_q _ hmod W
  have HT0 := Lib.hid fun o => h.past (belA (Below.refl _ _) o)
  have HS0 := Lib.hid h.sizes.1
  have HP : Hid (∀ (W : World) (v1 v2 : Value), T2 w0 W D M room g L B1 g L B2 → RV (fun _ => True) W v1 v2 (rowZ (n.tmod 1000)) → Calls Try.prog 16 #[.pointer (some ⟨D, 0, none⟩), .agg #[v1, v2]] W fun e w' => ∃ A n' c, e = .returned (.tuple #[.agg #[.slice A n' c, .bool (contO (pushO room L (rowZ (n.tmod 1000))))], .bool (okZ room L)]) ∧ T2 w0 w' D M room (pushG room g L) (pushL room L (rowZ (n.tmod 1000))) w'.heap.size g L B2 ∧ RVo (fun _ => True) w' (.slice A n' c) (.bool (contO (pushO room L (rowZ (n.tmod 1000))))) (pushO room L (rowZ (n.tmod 1000))) ∧ KR W w' ∧ KB (fun i => i < B1) W w') := Lib.hid fun W v1 v2 ht hr => push_t w0 W D M room g L B1 g L B2 ht _ v1 v2 hr hl hroom
  have HRP : Hid (∀ (W : World) (Ba : Nat) (v1 v2 : Value), T2 w0 W D M room (pushG room g L) (pushL room L (rowZ (n.tmod 1000))) Ba g L B2 → RV (fun _ => True) W v1 v2 (rowZ (n.tmod 1000)) → Calls Try.prog 18 #[.pointer (some ⟨M, 0, none⟩), .agg #[v1, v2]] W fun e w' => ∃ A n' c, e = .returned (.tuple #[.agg #[.slice A n' c, .bool (contO (pushO room L (rowZ (n.tmod 1000))))], .bool (okZ room L)]) ∧ T2 w0 w' D M room (pushG room g L) (pushL room L (rowZ (n.tmod 1000))) Ba (pushG room g L) (pushL room L (rowZ (n.tmod 1000))) w'.heap.size ∧ RVo (fun _ => True) w' (.slice A n' c) (.bool (contO (pushO room L (rowZ (n.tmod 1000))))) (pushO room L (rowZ (n.tmod 1000))) ∧ KR W w' ∧ KB (fun i => i < B2) W w') := Lib.hid fun W Ba v1 v2 ht hr => rpush_t w0 W D M room _ _ Ba g L B2 ht _ v1 v2 hr hl
  clear h hl hmod
  generalize rowZ (n.tmod 1000) = r at *
  generalize pushO room L r = po at *
  generalize pushL room L r = L' at *
  generalize pushG room g L = g' at *
  generalize hcq : contO po = cq at *
  generalize okZ room L = ok at *
  clear hcq
  go_enter Try.func10, Try.ntmps10
  go_wp2_with (first
    | (go_at_call 16; go_must (with_reducible refine (HP.out _ _ _ HT1.out HRW.out).mono ?_; rintro e1 w1 ⟨A1, n1, c1, rfl, ht1, hr1, _, hk1⟩; have HT2 := Lib.hid ht1; have HR1 := Lib.hid hr1; have ho1 := (hk1.block w.heap.size (Array.getElem?_eq_some_iff.1 HO5.out).1 (by have := HS0.out; omega)).trans HO5.out; have o0 := cell_of_row _ _ 0 _ _ _ ho1; have o1 := cell_of_row _ _ 1 _ _ _ ho1; have olt := (Array.getElem?_eq_some_iff.1 ho1).1; clear ht1 hr1 hk1 ho1 HP HT1 HRW HO5))
    | (go_at_call 17; go_must (with_reducible refine (HROW.out _).mono ?_; rintro e5 w5 ⟨g5, c5, rfl, hb5, hr5⟩; have HRW := Lib.hid hr5; (first | (have HT3 := Lib.hid (HT2.out.past (bel1 (Below.refl _ _) hb5)); have HR2 := Lib.hid (HR1.out.past (bel1 (Below.refl _ _) hb5)); have HS2 := Lib.hid HT2.out.sizes.2; have HX6 := Lib.hid ((hb5.block w1.heap.size (by simp)).trans (heap_alloc_new w1 _)); clear HT2 HR1 o0 o1 olt) | (have HT1 := Lib.hid ((HT0.out _).past hb5); have HO5 := Lib.hid ((hb5.block w.heap.size (by simp)).trans (heap_alloc_new w _)); clear HT0)); clear hb5 hr5))
    | (go_at_call 18; go_must (with_reducible refine (HRP.out _ _ _ _ HT3.out HRW.out).mono ?_; rintro e2 w2 ⟨A2, n2, c2, rfl, ht2, hr2, hk2, hb2⟩; have HT4 := Lib.hid ht2; have HR3 := Lib.hid hr2; have HR1' := Lib.hid (hk2.rv HR2.out); have hh := (hb2.block w1.heap.size (Array.getElem?_eq_some_iff.1 HX6.out).1 (by have := HS2.out; omega)).trans HX6.out; have b0 := cell_of_row _ _ 0 _ _ _ hh; have b1 := cell_of_row _ _ 1 _ _ _ hh; have hlt7 := (Array.getElem?_eq_some_iff.1 hh).1; clear ht2 hr2 hk2 hb2 hh HRP HT3 HR2 HX6))
    | (go_at_call 20; go_must (with_reducible refine (one_any _ _ _ _ po _ (HR1'.out.past (belA (Below.refl _ _) _)) (HR3.out.past (belA (Below.refl _ _) _))).mono ?_; rintro e3 w3 ⟨rfl, hb3⟩; have HF := Lib.hid (HT4.out.past (bel1 (Below.refl _ _) hb3)); clear hb3 HT4)))
  go_ret
  exact ⟨rfl, _, _, HF.out⟩
end Go.Proofs.Ytehfejgalemhaaa
