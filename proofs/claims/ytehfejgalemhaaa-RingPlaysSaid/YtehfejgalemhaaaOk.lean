/- What 'does' makes of both rings: Set. -/
import Derived.Test.YtehfejgalemhaaaOi
namespace Go.Proofs.Ytehfejgalemhaaa
open Go.RowKit

theorem RF.setAt {P : Nat → Prop} {w w5 : World} {D g off c n room : Nat} {gone : Int} {L : List (Int × Bool)} {xs : List Value} {v v2 : Value} {r : Int × Bool} (h : RF P w D (.slice (some ⟨g, off, none⟩) n c) room gone L xs) (hn : n = L.length) (i : Nat) (hi : i < n) (hb : Below w.heap.size w w5) (hr : RV P w5 v v2 r) :
    (∃ u, w5.cell? ⟨g, off + i * 2, none⟩ = some u) ∧ (∃ u, w5.cell? ⟨g, off + i * 2 + 1, none⟩ = some u) ∧ (∀ k, w5.frozen? ⟨g, k, none⟩ = false) ∧ ∃ xs', RF P ((w5.setCell ⟨g, off + i * 2, none⟩ v).setCell ⟨g, off + i * 2 + 1, none⟩ v2) D (.slice (some ⟨g, off, none⟩) n c) room gone (L.set i r) xs' ∧ KB (fun k => k = g) w5 ((w5.setCell ⟨g, off + i * 2, none⟩ v).setCell ⟨g, off + i * 2 + 1, none⟩ v2) := by
  subst hn
  have h5 := h.past hb
  obtain ⟨s1, c1, f1⟩ := h5.rows.stored (i * 2) v (by omega)
  obtain ⟨s2, c2, f2⟩ := s1.stored (i * 2 + 1) v2 (by omega)
  obtain ⟨_, c3, _⟩ := h5.rows.stored (i * 2 + 1) v (by omega)
  rw [← Nat.add_assoc] at s2 c3
  obtain ⟨cur, hcur⟩ := (h5.rows.lt g rfl).2
  have kk : KB (fun k => k = g) w5 ((w5.setCell ⟨g, off + i * 2, none⟩ v).setCell ⟨g, off + i * 2 + 1, none⟩ v2) := (KB.set (S := fun k => k = g) _ v rfl).trans (KB.set (S := fun k => k = g) _ v2 rfl) fun _ _ e => e
  have hnc : NC (fun k => k = g) P w5 := fun k cur' _ hS _ hc => by
    subst hS
    rw [hcur] at hc
    injection hc with hc
    injection hc with _ e _
    exact absurd e (by decide)
  exact ⟨c1, c3, fun k => by simp [World.frozen?, hcur], _, ⟨(kk.block D h5.lt (fun e => h5.ne g rfl e.symm)).trans h5.d, by rw [List.length_set]; exact s2, RS.set (hr.kept kk hnc) i (h5.each.map fun _ _ _ q => q.kept kk hnc)⟩, kk⟩

/-- A row is put into the reference's rows from outside. -/
theorem T2.setM {w0 w : World} {D M room : Nat} {g1 : Int} {L1 : List (Int × Bool)} {B1 : Nat} {g2 : Int} {L2 : List (Int × Bool)} {B2 : Nat} (h : T2 w0 w D M room g1 L1 B1 g2 L2 B2) (i : Nat) (hi : i < L2.length) :
    ∃ g off c, (∀ W, Below w.heap.size w W → W.cell? ⟨M, 1, none⟩ = some (.slice (some ⟨g, off, none⟩) L2.length c)) ∧ M < w.heap.size ∧ g < w.heap.size ∧ ∀ (W : World) (v v2 : Value) (r : Int × Bool), Below w.heap.size w W → RV (fun _ => True) W v v2 r → (∃ u, W.cell? ⟨g, off + i * 2, none⟩ = some u) ∧ (∃ u, W.cell? ⟨g, off + i * 2 + 1, none⟩ = some u) ∧ (∀ k, W.frozen? ⟨g, k, none⟩ = false) ∧ (∃ B2', T2 w0 ((W.setCell ⟨g, off + i * 2, none⟩ v).setCell ⟨g, off + i * 2 + 1, none⟩ v2) D M room g1 L1 B1 g2 (L2.set i r) B2') ∧ KB (fun k => k < B2) W ((W.setCell ⟨g, off + i * 2, none⟩ v).setCell ⟨g, off + i * 2 + 1, none⟩ v2) := by
  obtain ⟨A, c, xs, A', c', xs', h1, h2, h3, h4, h5, h6, h7, h8⟩ := h
  obtain ⟨n', hn'⟩ : ∃ n', L2.length = n' + 1 := ⟨L2.length - 1, by omega⟩
  obtain ⟨g, off, cc, he, _⟩ := OR.form (n := n') (by have := h2.rows; rwa [hn'] at this)
  rw [← hn'] at he
  injection he with he1 _ he2
  subst he1; subst he2
  refine ⟨g, off, c', fun W hW => (h2.past hW).cells.1.2.1, h2.lt, (h2.rows.lt g rfl).1, fun W v v2 r hW hr => ?_⟩
  obtain ⟨q1, q2, q3, ys, q4, q5⟩ := h2.setAt rfl i hi hW hr
  have q4' : RF (fun _ => True) ((W.setCell ⟨g, off + i * 2, none⟩ v).setCell ⟨g, off + i * 2 + 1, none⟩ v2) M (.slice (some ⟨g, off, none⟩) (L2.set i r).length c') room g2 (L2.set i r) ys := by rw [List.length_set]; exact q4
  obtain ⟨s1, s2, s3⟩ := T2.stepM (h1.past hW) (h2.past hW) (bel0 h3 hW) h4 h5 h6 (Nat.le_trans h7 hW.size) (Nat.le_trans h8 hW.size) q4' (q5.wide _ fun k e => .inr (by rw [e]; rfl)) (.inl rfl)
  exact ⟨q1, q2, q3, ⟨_, s1⟩, s3⟩
theorem set_t (w0 w : World) (D M room : Nat) (g1 : Int) (L1 : List (Int × Bool)) (B1 : Nat) (g2 : Int) (L2 : List (Int × Bool)) (B2 : Nat) (h : T2 w0 w D M room g1 L1 B1 g2 L2 B2) (hl : L1.length ≤ 1000000) (i : Nat) (hi : i < L1.length) (v1 v2 : Value) (r : Int × Bool) (hr : RV (fun _ => True) w v1 v2 r) :
    Calls Try.prog 24 #[.pointer (some ⟨D, 0, none⟩), .int .i64 i, .agg #[v1, v2]] w fun e w' => e = .returned (.bool true) ∧ T2 w0 w' D M room g1 (L1.set i r) w'.heap.size g2 L2 B2 := by
  obtain ⟨A, c, xs, A', c', xs', h1, h2, h3, h4, h5, h6, h7, h8⟩ := h
  refine (set_in w D _ v1 v2 room g1 L1 xs r h1 (fun _ _ => trivial) hr i hi hl).mono fun e w' hp => ?_
  obtain ⟨rfl, ys, q1, q2⟩ := hp
  have q1' : RM (fun _ => True) w' D (.slice A (L1.set i r).length c) room g1 (L1.set i r) ys := by rw [List.length_set]; exact q1
  exact ⟨rfl, (T2.stepR h1 h2 h3 h4 h5 h6 h7 h8 q1' (q2.wide _ fun k e => .inr e) (.inl (by cases A <;> rfl))).1⟩
theorem set_out_t (w0 w : World) (D M room : Nat) (g1 : Int) (L1 : List (Int × Bool)) (B1 : Nat) (g2 : Int) (L2 : List (Int × Bool)) (B2 : Nat) (h : T2 w0 w D M room g1 L1 B1 g2 L2 B2) (i : Int) (hi : i < 0 ∨ (L1.length : Int) ≤ i) (v1 v2 : Value) :
    Calls Try.prog 24 #[.pointer (some ⟨D, 0, none⟩), .int .i64 i, .agg #[v1, v2]] w fun e w' => e = .returned (.bool false) ∧ T2 w0 w' D M room g1 L1 B1 g2 L2 B2 := by
  have hT := h
  obtain ⟨A, c, xs, A', c', xs', h1, h2, h3, h4, h5, h6, h7, h8⟩ := h
  exact (set_out w D _ v1 v2 room g1 L1 xs h1 i hi).mono fun e w' hp => ⟨hp.1, hT.past hp.2⟩

set_option maxRecDepth 100000 in
set_option maxHeartbeats 8000000 in
theorem does_set_out (w0 w : World) (D M room : Nat) (g : Int) (L : List (Int × Bool)) (B1 B2 : Nat) (h : T2 w0 w D M room g L B1 g L B2) (n : Int) (hn : n < 0 ∨ (L.length : Int) ≤ n) :
    Calls Try.prog 10 #[.pointer (some ⟨D, 0, none⟩), .pointer (some ⟨M, 0, none⟩), .agg #[.int .i64 2, .int .i64 n]] w fun e w' => DoesPost w0 D M room g L e w' := by
  have HT := Lib.hid h
  have HF : Hid (∀ w2, Below w.heap.size w w2 → ∃ A' c', w2.cell? ⟨M, 1, none⟩ = some (.slice A' L.length c')) := Lib.hid fun w2 hb => by
    obtain ⟨A, c, xs, A', c', xs', h1, h2, _⟩ := h
    exact ⟨A', c', (h2.past hb).cells.1.2.1⟩
  have HSET : Hid (∀ W v1 v2, Below w.heap.size w W → Calls Try.prog 24 #[.pointer (some ⟨D, 0, none⟩), .int .i64 n, .agg #[v1, v2]] W fun e w' => e = .returned (.bool false) ∧ T2 w0 w' D M room g L B1 g L B2) := Lib.hid fun W v1 v2 hW => set_out_t w0 W D M room g L B1 g L B2 (h.past hW) n hn v1 v2
  have HROW : Hid (∀ W, Calls Try.prog 17 #[.int .i64 7] W fun e w' => ∃ g c, e = .returned (.agg #[.slice (some ⟨g, 0, none⟩) 1 c, .bool (rowZ 7).2]) ∧ Below W.heap.size W w' ∧ RV (fun _ => True) w' (.slice (some ⟨g, 0, none⟩) 1 c) (.bool (rowZ 7).2) (rowZ 7)) := Lib.hid fun W => row_q 7 (by omega) W
  have hd : decide (0 ≤ n) = false ∨ decide (0 ≤ n) = true ∧ decide (n < (L.length : Int)) = false := by
    by_cases h0 : 0 ≤ n
    · exact .inr ⟨decide_eq_true h0, decide_eq_false (by omega)⟩
    · exact .inl (decide_eq_false h0)
  generalize (rowZ 7).2 = q7 at *
  clear h hn
  obtain ⟨A', c', m1⟩ := HF.out _ (belA (Below.refl _ _) (.cells #[.int .i64 2, .int .i64 n] 35))
  have HT2 := Lib.hid (HT.out.past (belA (Below.refl _ _) (.cells #[.int .i64 2, .int .i64 n] 35)))
  have HB2 := Lib.hid (belA (Below.refl w.heap.size w) (.cells #[.int .i64 2, .int .i64 n] 35))
  have ho := heap_alloc_new w (.cells #[.int .i64 2, .int .i64 n] 35)
  rcases hd with hd | ⟨hd, hd2⟩
  all_goals
    go_enter Try.func10, Try.ntmps10
    go_wp2_with fail
    generalize w.alloc (.cells #[.int .i64 2, .int .i64 n] 35) = w2 at *
    have o1 := cell_of_row _ _ 1 _ _ _ ho
    have hlt := (Array.getElem?_eq_some_iff.1 ho).1
    generalize w.heap.size = N0 at ho o1 hlt ⊢
    refine wp_region_quiet_lit (by kernel_rfl) (by kernel_rfl) ?_
    repeat (any_goals (first | go_big_quiet_step (fail) | quiet_step (fail)))
    refine wpQuiet_nil ?_
    intro _ hw'
    obtain ⟨nq, hw''⟩ := hw'
    subst hw''
    have o2 : (w2.drewN nq).cell? ⟨N0, 1, none⟩ = some (.int .i64 n) := o1
    have hl2 : N0 < (w2.drewN nq).heap.size := hlt
    have HB3 := Lib.hid (bel0 HB2.out (belN w2 nq))
    clear o1 ho m1 hlt
    generalize w2.drewN nq = w3 at *
    go_wp2_with fail
    go_region_with (first
      | (go_at_call 17; (with_reducible refine (HROW.out _).mono ?_); rintro e5 w5 ⟨g5, c5, rfl, hb5, _⟩; have o5 := (hb5.cell (p := ⟨N0, 1, none⟩) hl2).trans o2; have HB5 := Lib.hid (bel0 HB3.out (belD hb5)); clear hb5)
      | (go_at_call 24; (with_reducible refine (HSET.out _ _ _ HB5.out).mono ?_); rintro e6 w6 ⟨rfl, ht6⟩; have HT6 := Lib.hid ht6; clear ht6))
    all_goals
      go_wp2
      go_ret
      exact ⟨rfl, _, _, HT6.out⟩
end Go.Proofs.Ytehfejgalemhaaa
