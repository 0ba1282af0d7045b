/- Clear of both rings; what 'does' makes of them: Clear. -/
import Derived.Test.YtehfejgalemhaaaOe
namespace Go.Proofs.Ytehfejgalemhaaa
open Go.RowKit

theorem clear_t (w0 w : World) (D M room : Nat) (g1 : Int) (L1 : List (Int × Bool)) (B1 : Nat) (g2 : Int) (L2 : List (Int × Bool)) (B2 : Nat) (h : T2 w0 w D M room g1 L1 B1 g2 L2 B2) (hl : L1.length ≤ 1000000) :
    Calls Try.prog 23 #[.pointer (some ⟨D, 0, none⟩)] w fun e w' => e = .returned (.int .i64 L1.length) ∧ T2 w0 w' D M room (clearG g1 L1) [] w'.heap.size g2 L2 B2 := by
  obtain ⟨A, c, xs, A', c', xs', h1, h2, h3, h4, h5, h6, h7, h8⟩ := h
  refine (clear_any w D _ room g1 L1 xs h1 hl).mono fun e w' hp => ?_
  obtain ⟨rfl, v', q1, q2, q3⟩ := hp
  obtain ⟨Av, cv, rfl⟩ := q1.rows.shape
  refine ⟨rfl, (T2.stepR h1 h2 h3 h4 h5 h6 h7 h8 q1 (q3.wide _ fun i e => .inl e) ?_).1⟩
  rcases q2 with q | q
  · exact .inl (by rw [q])
  · refine .inr fun g e => ?_
    rw [q] at e
    simp [Value.ownBlock] at e
theorem rclear_t (w0 w : World) (D M room : Nat) (g1 : Int) (L1 : List (Int × Bool)) (B1 : Nat) (g2 : Int) (L2 : List (Int × Bool)) (B2 : Nat) (h : T2 w0 w D M room g1 L1 B1 g2 L2 B2) (hl : L2.length ≤ 1000000) (hg : IntKind.u64.wrap g2 = g2) :
    Calls Try.prog 27 #[.pointer (some ⟨M, 0, none⟩)] w fun e w' => e = .returned (.int .i64 L2.length) ∧ T2 w0 w' D M room g1 L1 B1 (clearG g2 L2) [] w'.heap.size := by
  obtain ⟨A, c, xs, A', c', xs', h1, h2, h3, h4, h5, h6, h7, h8⟩ := h
  refine (rclear_any w M _ room g2 L2 xs' h2 hl).mono fun e w' hp => ?_
  obtain ⟨rfl, q1, q2⟩ := hp
  have e : IntKind.u64.wrap (g2 + L2.length) = clearG g2 L2 := by
    unfold clearG
    by_cases hL : L2 = []
    · rw [if_pos hL, hL]
      simpa using hg
    · rw [if_neg hL]
  rw [e] at q1
  exact ⟨rfl, (T2.stepM h1 h2 h3 h4 h5 h6 h7 h8 (Av := none) (cv := 0) (L2' := []) q1 (q2.wide _ fun i e => .inl e) (.inr fun g e => by simp [Value.ownBlock] at e)).1⟩

set_option maxRecDepth 100000 in
set_option maxHeartbeats 8000000 in
theorem does_clear (w0 w : World) (D M room : Nat) (g : Int) (L : List (Int × Bool)) (B1 B2 : Nat) (h : T2 w0 w D M room g L B1 g L B2) (hl : L.length ≤ 1000000) (hg : IntKind.u64.wrap g = g) (n : Int) :
    Calls Try.prog 10 #[.pointer (some ⟨D, 0, none⟩), .pointer (some ⟨M, 0, none⟩), .agg #[.int .i64 4, .int .i64 n]] w fun e w' => DoesPost w0 D M room (clearG g L) [] e w' := by
  have HC : Hid (∀ o, Calls Try.prog 23 #[.pointer (some ⟨D, 0, none⟩)] (w.alloc o) fun e w' => e = .returned (.int .i64 L.length) ∧ T2 w0 w' D M room (clearG g L) [] w'.heap.size g L B2) := Lib.hid fun o => clear_t w0 _ D M room g L B1 g L B2 (h.past (belA (Below.refl _ _) o)) hl
  have HRC : Hid (∀ (W : World) (Ba : Nat), T2 w0 W D M room (clearG g L) [] Ba g L B2 → Calls Try.prog 27 #[.pointer (some ⟨M, 0, none⟩)] W fun e w' => e = .returned (.int .i64 L.length) ∧ T2 w0 w' D M room (clearG g L) [] Ba (clearG g L) [] w'.heap.size) := Lib.hid fun W Ba ht => rclear_t w0 W D M room _ _ Ba g L B2 ht hl hg
  clear h hl hg
  generalize clearG g L = g' at *
  generalize L.length = m at *
  go_enter Try.func10, Try.ntmps10
  go_wp2_with (first
    | (go_at_call 23; go_must (with_reducible refine (HC.out _).mono ?_; rintro e1 w1 ⟨rfl, ht1⟩; have HT1 := Lib.hid ht1; clear ht1 HC))
    | (go_at_call 27; go_must (with_reducible refine (HRC.out _ _ HT1.out).mono ?_; rintro e2 w2 ⟨rfl, ht2⟩; have HT2 := Lib.hid ht2; clear ht2 HRC HT1)))
  go_ret
  exact ⟨rfl, _, _, HT2.out⟩
end Go.Proofs.Ytehfejgalemhaaa
