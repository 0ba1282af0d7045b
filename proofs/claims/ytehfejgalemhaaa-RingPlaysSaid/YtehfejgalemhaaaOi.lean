/- What 'does' makes of both rings: At. -/
import Derived.Test.YtehfejgalemhaaaOj
namespace Go.Proofs.Ytehfejgalemhaaa
open Go.RowKit

theorem six_step {wr W W' : World} {a1 a2 a3 a4 a5 a6 : Addr} {v1 v2 v3 v4 v5 v6 : Value} (h : (W.cell? a1 = some v1 ∧ W.cell? a2 = some v2 ∧ W.cell? a3 = some v3 ∧ W.cell? a4 = some v4 ∧ W.cell? a5 = some v5 ∧ W.cell? a6 = some v6) ∧ (a1.block < W.heap.size ∧ a2.block < W.heap.size ∧ a3.block < W.heap.size ∧ a4.block < W.heap.size ∧ a5.block < W.heap.size ∧ a6.block < W.heap.size) ∧ Below wr.heap.size wr W) (hb : Below W.heap.size W W') :
    (W'.cell? a1 = some v1 ∧ W'.cell? a2 = some v2 ∧ W'.cell? a3 = some v3 ∧ W'.cell? a4 = some v4 ∧ W'.cell? a5 = some v5 ∧ W'.cell? a6 = some v6) ∧ (a1.block < W'.heap.size ∧ a2.block < W'.heap.size ∧ a3.block < W'.heap.size ∧ a4.block < W'.heap.size ∧ a5.block < W'.heap.size ∧ a6.block < W'.heap.size) ∧ Below wr.heap.size wr W' := by
  obtain ⟨⟨e1, e2, e3, e4, e5, e6⟩, ⟨l1, l2, l3, l4, l5, l6⟩, hB⟩ := h
  have hs := hb.size
  exact ⟨⟨(hb.cell l1).trans e1, (hb.cell l2).trans e2, (hb.cell l3).trans e3, (hb.cell l4).trans e4, (hb.cell l5).trans e5, (hb.cell l6).trans e6⟩, ⟨by omega, by omega, by omega, by omega, by omega, by omega⟩, bel0 hB hb⟩
theorem six_below {wr W : World} {a1 a2 a3 a4 a5 a6 : Addr} {v1 v2 v3 v4 v5 v6 : Value} (h : (W.cell? a1 = some v1 ∧ W.cell? a2 = some v2 ∧ W.cell? a3 = some v3 ∧ W.cell? a4 = some v4 ∧ W.cell? a5 = some v5 ∧ W.cell? a6 = some v6) ∧ (a1.block < W.heap.size ∧ a2.block < W.heap.size ∧ a3.block < W.heap.size ∧ a4.block < W.heap.size ∧ a5.block < W.heap.size ∧ a6.block < W.heap.size) ∧ Below wr.heap.size wr W) : Below wr.heap.size wr W := h.2.2

set_option maxRecDepth 100000 in
set_option maxHeartbeats 8000000 in
theorem does_at_in (w0 w : World) (D M room : Nat) (g : Int) (L : List (Int × Bool)) (B1 B2 : Nat) (h : T2 w0 w D M room g L B1 g L B2) (hl : L.length ≤ 1000000) (i : Nat) (hi : i < L.length) :
    Calls Try.prog 10 #[.pointer (some ⟨D, 0, none⟩), .pointer (some ⟨M, 0, none⟩), .agg #[.int .i64 3, .int .i64 i]] w fun e w' => DoesPost w0 D M room g L e w' := by
  have HT := Lib.hid h
  obtain ⟨A, c, xs, A', c', xs', h1, h2, _⟩ := h
  have HAT := Lib.hid (fun o => at_any (w.alloc o) D _ room g L xs (h1.past (belA (Below.refl _ _) o)) i hi hl)
  obtain ⟨u, v2, hx0, hx1, hr⟩ := h2.each.at i hi
  generalize L[i]?.getD (0, false) = r at *
  obtain ⟨b0, c0, rfl, rfl, _⟩ := hr.cells
  obtain ⟨n1, hn1⟩ : ∃ n1, L.length = n1 + 1 := ⟨L.length - 1, by omega⟩
  obtain ⟨gm, off, cm, he, _⟩ := OR.form (n := n1) (by have := h2.rows; rwa [hn1] at this)
  rw [← hn1] at he
  injection he with he1 _ he2
  subst he1; subst he2
  have HF : Hid (∀ w2, Below w.heap.size w w2 → (w2.cell? ⟨M, 1, none⟩ = some (.slice (some ⟨gm, off, none⟩) L.length c') ∧ w2.cell? ⟨gm, off + i * 2, none⟩ = some (.slice (some ⟨b0, 0, none⟩) 1 c0) ∧ w2.cell? ⟨gm, off + i * 2 + 1, none⟩ = some (.bool r.2)) ∧ (M < w2.heap.size ∧ gm < w2.heap.size) ∧ RVo (fun _ => True) w2 (.slice (some ⟨b0, 0, none⟩) 1 c0) (.bool r.2) (some r)) := Lib.hid fun w2 hb => by
    have h2' := h2.past hb
    have e1 := (h2'.rows.cell hx1).1
    rw [← Nat.add_assoc] at e1
    exact ⟨⟨h2'.cells.1.2.1, (h2'.rows.cell hx0).1, e1⟩, ⟨h2'.lt, (h2'.rows.lt gm rfl).1⟩, RV.past hr hb⟩
  have hi1 : (0 : Int) ≤ i := by omega
  have hi2 : (i : Int) < L.length := by omega
  have hi3 : ¬ (i : Int) < 0 := by omega
  have hi4 : decide ((i : Int) < (L.length : Int)) = true := decide_eq_true hi2
  have hi5 : decide (i < L.length) = true := decide_eq_true hi
  clear h1 h2 hx0 hx1 hr hn1 hl hi
  generalize r.2 = q at *
  generalize hLn : L.length = n' at *
  have HLn := Lib.hid hLn
  clear hLn
  go_enter Try.func10, Try.ntmps10
  go_wp2_with (go_at_call 19; go_must (with_reducible refine (HAT.out _).mono ?_; rintro e5 w5 ⟨g5, c5, rfl, hb5, hr5⟩; have HB5 := Lib.hid hb5; have HR5 := Lib.hid hr5; clear hb5 hr5 HAT))
  have hb2 := belA (bel1 (Below.refl _ _) HB5.out) (.cells #[.slice (some ⟨g5, 0, none⟩) 1 c5, .bool q] 43)
  have ho := (HB5.out.block w.heap.size (by simp)).trans (heap_alloc_new w _)
  have ho2 := (heap_alloc_old w5 (.cells #[.slice (some ⟨g5, 0, none⟩) 1 c5, .bool q] 43) (Array.getElem?_eq_some_iff.1 ho).1).trans ho
  have h5n := heap_alloc_new w5 (.cells #[.slice (some ⟨g5, 0, none⟩) 1 c5, .bool q] 43)
  have HR6 := Lib.hid (HR5.out.past (belA (Below.refl w5.heap.size w5) (.cells #[.slice (some ⟨g5, 0, none⟩) 1 c5, .bool q] 43)))
  obtain ⟨⟨m1, x0, x1⟩, ⟨lM, lg⟩, hrm⟩ := HF.out _ hb2
  have HT2 := Lib.hid (HT.out.past hb2)
  have hsz : w5.heap.size < (w5.alloc (.cells #[.slice (some ⟨g5, 0, none⟩) 1 c5, .bool q] 43)).heap.size := by simp
  clear HB5 HR5 HF HT hb2 ho
  generalize w5.alloc (.cells #[.slice (some ⟨g5, 0, none⟩) 1 c5, .bool q] 43) = w2 at *
  generalize w5.heap.size = B1' at *
  have lN := (Array.getElem?_eq_some_iff.1 ho2).1
  have o0 := cell_of_row _ _ 0 _ _ _ ho2
  have o1 := cell_of_row _ _ 1 _ _ _ ho2
  have k0 := cell_of_row _ _ 0 _ _ _ h5n
  have k1 := cell_of_row _ _ 1 _ _ _ h5n
  generalize w.heap.size = N0 at *
  clear ho2 h5n
  have HRM := Lib.hid hrm
  clear hrm
  have HONE : Hid (∀ W, Below w2.heap.size w2 W → Calls Try.prog 20 #[.agg #[.slice (some ⟨g5, 0, none⟩) 1 c5, .bool q], .agg #[.slice (some ⟨b0, 0, none⟩) 1 c0, .bool q]] W fun e w' => e = .returned (.bool true) ∧ Below W.heap.size W w') := Lib.hid fun W hW => one_any _ _ _ _ (some r) W (RV.past HR6.out hW) (HRM.out.past hW)
  clear HR6 HRM
  go_quiet (fail)
  have d0 : (w2.drewN nq).cell? ⟨B1', 0, none⟩ = some (.slice (some ⟨g5, 0, none⟩) 1 c5) := k0
  have d1 : (w2.drewN nq).cell? ⟨B1', 1, none⟩ = some (.bool q) := k1
  have d2 : (w2.drewN nq).cell? ⟨M, 1, none⟩ = some (.slice (some ⟨gm, off, none⟩) n' c') := m1
  have d3 : (w2.drewN nq).cell? ⟨N0, 1, none⟩ = some (.int .i64 i) := o1
  have d4 : (w2.drewN nq).cell? ⟨gm, off + i * 2, none⟩ = some (.slice (some ⟨b0, 0, none⟩) 1 c0) := x0
  have d6 : (w2.drewN nq).cell? ⟨gm, off + i * 2 + 1, none⟩ = some (.bool q) := x1
  have HN := Lib.hid (belN w2 nq)
  clear k0 k1 m1 o0 o1 x0 x1
  generalize w2.drewN nq = w3 at *
  go_wp2
  go_still_tail 29, (by kernel_rfl)
  change wpList _ _ _ _ _ w3.drew
  have HN2 : Hid (Below w2.heap.size w2 w3.drew) := Lib.hid HN.out.drew
  generalize w3.drew = w4 at *
  go_wp2_with (go_at_call 20; (with_reducible refine (HONE.out _ HN2.out).mono ?_); rintro e8 w8 ⟨rfl, hbx⟩; have HB8 := Lib.hid (bel0 HN2.out hbx); clear hbx)
  all_goals
    have HF := Lib.hid (HT2.out.past HB8.out)
    go_wp2
    go_ret
    exact ⟨rfl, _, _, HF.out⟩
end Go.Proofs.Ytehfejgalemhaaa
