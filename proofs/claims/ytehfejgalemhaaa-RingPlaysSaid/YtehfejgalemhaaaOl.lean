/- What 'does' makes of both rings: Set of a place that there is. -/
import Derived.Test.YtehfejgalemhaaaOk
namespace Go.Proofs.Ytehfejgalemhaaa
open Go.RowKit

theorem KB.cell_at {S : Nat → Prop} {w w' : World} (h : KB S w w') {b o : Nat} (hb : b < w.heap.size) (hs : ¬ S b) : w'.cell? ⟨b, o, none⟩ = w.cell? ⟨b, o, none⟩ := by
  simp only [World.cell?]
  rw [h.block b hb hs]

set_option maxRecDepth 100000 in
set_option maxHeartbeats 8000000 in
theorem does_set_in (w0 w : World) (D M room : Nat) (g : Int) (L : List (Int × Bool)) (B1 B2 : Nat) (h : T2 w0 w D M room g L B1 g L B2) (hl : L.length ≤ 1000000) (i : Nat) (hi : i < L.length) :
    Calls Try.prog 10 #[.pointer (some ⟨D, 0, none⟩), .pointer (some ⟨M, 0, none⟩), .agg #[.int .i64 2, .int .i64 i]] w fun e w' => DoesPost w0 D M room g (L.set i (rowZ 7)) e w' := by
  have hi2 : (0 : Int) ≤ i := by omega
  have hd : decide ((0 : Int) ≤ i) = true := decide_eq_true (by omega)
  have hd2 : decide (i < L.length) = true := decide_eq_true hi
  have hd3 : (i : Int) < L.length := by omega
  obtain ⟨gm, off, c', hM1, hMlt, hglt, hST⟩ := (h.past (belA (Below.refl _ _) (.cells #[.int .i64 2, .int .i64 i] 35))).setM i hi
  have HROW : Hid (∀ W, Calls Try.prog 17 #[.int .i64 7] W fun e w' => ∃ g c, e = .returned (.agg #[.slice (some ⟨g, 0, none⟩) 1 c, .bool (rowZ 7).2]) ∧ Below W.heap.size W w' ∧ RV (fun _ => True) w' (.slice (some ⟨g, 0, none⟩) 1 c) (.bool (rowZ 7).2) (rowZ 7)) := Lib.hid fun W => row_q 7 (by omega) W
  have HSET : Hid (∀ (W : World) (g5 c5 Bx : Nat), T2 w0 W D M room g L B1 g (L.set i (rowZ 7)) Bx → RV (fun _ => True) W (.slice (some ⟨g5, 0, none⟩) 1 c5) (.bool (rowZ 7).2) (rowZ 7) → Calls Try.prog 24 #[.pointer (some ⟨D, 0, none⟩), .int .i64 i, .agg #[.slice (some ⟨g5, 0, none⟩) 1 c5, .bool (rowZ 7).2]] W fun e w' => e = .returned (.bool true) ∧ T2 w0 w' D M room g (L.set i (rowZ 7)) w'.heap.size g (L.set i (rowZ 7)) Bx) := Lib.hid fun W g5 c5 Bx ht hr => set_t w0 W D M room g L B1 g (L.set i (rowZ 7)) Bx ht hl i hi _ _ _ hr
  have hB2 := h.sizes.2
  have HST : Hid (∀ (W : World) (v : Value), Below (w.alloc (.cells #[.int .i64 2, .int .i64 i] 35)).heap.size (w.alloc (.cells #[.int .i64 2, .int .i64 i] 35)) W → RV (fun _ => True) W v (.bool (rowZ 7).2) (rowZ 7) → (∃ u, W.cell? ⟨gm, off + i * 2, none⟩ = some u) ∧ (∃ u, W.cell? ⟨gm, off + i * 2 + 1, none⟩ = some u) ∧ (∀ k, W.frozen? ⟨gm, k, none⟩ = false) ∧ Hid (∃ B2', T2 w0 ((W.setCell ⟨gm, off + i * 2, none⟩ v).setCell ⟨gm, off + i * 2 + 1, none⟩ (.bool (rowZ 7).2)) D M room g L B1 g (L.set i (rowZ 7)) B2') ∧ Hid (KB (fun k => k < B2) W ((W.setCell ⟨gm, off + i * 2, none⟩ v).setCell ⟨gm, off + i * 2 + 1, none⟩ (.bool (rowZ 7).2)))) := Lib.hid fun W v hW hr => by
    obtain ⟨q1, q2, q3, q4, q5⟩ := hST W v (.bool (rowZ 7).2) (rowZ 7) hW hr
    exact ⟨q1, q2, q3, Lib.hid q4, Lib.hid q5⟩
  clear hST
  have m1 := hM1 _ (Below.refl _ _)
  have ho := heap_alloc_new w (.cells #[.int .i64 2, .int .i64 i] 35)
  clear h hM1 hi hl
  generalize (rowZ 7).2 = q7 at *
  generalize hL' : L.set i (rowZ 7) = L' at *
  generalize hLn : L.length = n' at *
  clear hL' hLn
  go_enter Try.func10, Try.ntmps10
  go_wp2_with fail
  generalize w.alloc (.cells #[.int .i64 2, .int .i64 i] 35) = w2 at *
  have o1 := cell_of_row _ _ 1 _ _ _ ho
  have hlt := (Array.getElem?_eq_some_iff.1 ho).1
  generalize w.heap.size = N0 at ho o1 hlt hB2 ⊢
  refine wp_region_quiet_lit (by kernel_rfl) (by kernel_rfl) ?_
  repeat (any_goals (first | go_big_quiet_step (fail) | quiet_step (fail)))
  refine wpQuiet_nil ?_
  intro _ hw'
  obtain ⟨nq, hw''⟩ := hw'
  subst hw''
  have o2 : (w2.drewN nq).cell? ⟨N0, 1, none⟩ = some (.int .i64 i) := o1
  have m2 : (w2.drewN nq).cell? ⟨M, 1, none⟩ = some (.slice (some ⟨gm, off, none⟩) n' c') := m1
  have hl2 : N0 < (w2.drewN nq).heap.size := hlt
  have hl3 : M < (w2.drewN nq).heap.size := hMlt
  have hl4 : gm < (w2.drewN nq).heap.size := hglt
  have HB3 := Lib.hid (belN w2 nq)
  clear o1 ho m1 hlt hMlt hglt
  generalize w2.drewN nq = w3 at *
  go_wp2_with fail
  go_region_law (first
    | (go_simp; go_at_call 17; (with_reducible refine (HROW.out _).mono ?_); rintro e5 w5 ⟨g5, c5, rfl, hb5, hr5⟩; have HB5 := Lib.hid (bel0 HB3.out (belD hb5)); obtain ⟨⟨u1, k1⟩, ⟨u2, k2⟩, kf, HT5, HK5⟩ := HST.out _ _ HB5.out hr5; have o5 := (hb5.cell (p := ⟨N0, 1, none⟩) hl2).trans o2; have m5 := (hb5.cell (p := ⟨M, 1, none⟩) hl3).trans m2; have hs5 := hb5.size; clear hb5 hr5))
  all_goals
    have hl5 : N0 < w5.heap.size := Nat.lt_of_lt_of_le hl2 hs5
    have o6 := (HK5.out.cell_at (b := N0) (o := 1) hl5 (by omega)).trans o5
    have hl6 := Nat.lt_of_lt_of_le hl5 HK5.out.size
    clear hl5
    obtain ⟨Bx, hT6⟩ := HT5.out
    have HT6 := Lib.hid hT6
    clear hT6 u1 k1 u2 k2 kf m5 o5 hs5 HT5 HK5 m2 o2 hl2 hl3 hl4 HB5
    generalize (w5.setCell ⟨gm, off + i * 2, none⟩ (.slice (some ⟨g5, 0, none⟩) 1 c5)).setCell ⟨gm, off + i * 2 + 1, none⟩ (.bool q7) = w6 at *
    go_wp2_with fail
    go_region_with (first
      | (go_at_call 17; (with_reducible refine (HROW.out _).mono ?_); rintro e7 w7 ⟨g7, c7, rfl, hb7, hr7⟩; have o7 := (hb7.cell (p := ⟨N0, 1, none⟩) hl6).trans o6; have HT7 := Lib.hid (HT6.out.past (belD hb7)); have HR7 := Lib.hid hr7; clear hb7 hr7)
      | (go_at_call 24; (with_reducible refine (HSET.out _ _ _ _ HT7.out HR7.out).mono ?_); rintro e8 w8 ⟨rfl, ht8⟩; have HT8 := Lib.hid ht8; clear ht8))
    all_goals
      go_wp2
      go_ret
      exact ⟨rfl, _, _, HT8.out⟩
end Go.Proofs.Ytehfejgalemhaaa
