/- The law of RingOwn. -/
import Derived.Test.YtfablhfjjlmdgaaNr
namespace Go.Proofs.Ytfablhfjjlmdgaa
open Go.RowKit

theorem RV.first {P : Nat → Prop} {w : World} {b c : Nat} {v2 : Value} {r : Int × Bool} (h : RV P w (.slice (some ⟨b, 0, none⟩) 1 c) v2 r) : (w.cell? ⟨b, 0, none⟩ = some (.int .i32 r.1) ∧ w.frozen? ⟨b, 0, none⟩ = false) ∧ b < w.heap.size ∧ P b := by
  obtain ⟨b', c', e, _, hlt, hP, hc⟩ := h.cells
  have hbb : b = b' := by simpa [Value.ownBlock] using congrArg Value.ownBlock e
  subst hbb
  exact ⟨hc 0 _ rfl, hlt, hP⟩
theorem own_push {P3 : Nat → Prop} (w w3 : World) (rm gx cx : Nat) (r : Int × Bool) (h3 : ∀ P, RM P w3 w.heap.size (.slice none 0 0) rm 0 [] []) (hb3 : Below w.heap.size w w3) (hr3 : RV P3 w3 (.slice (some ⟨gx, 0, none⟩) 1 cx) (.bool r.2) r) (hgx : w.heap.size ≤ gx) (hm1 : rm ≤ 1000000) (hm2 : 1 ≤ rm) :
    Calls Try.prog 16 #[.pointer (some ⟨w.heap.size, 0, none⟩), .agg #[.slice (some ⟨gx, 0, none⟩) 1 cx, .bool r.2]] (w3.alloc (.cells #[.slice (some ⟨gx, 0, none⟩) 1 cx, .bool r.2] 43)) fun e w4 => e = .returned (.tuple #[.agg #[.slice none 0 0, .bool false], .bool false]) ∧
      (w4.cell? ⟨w3.heap.size, 0, none⟩ = some (.slice (some ⟨gx, 0, none⟩) 1 cx) ∧ w4.cell? ⟨w3.heap.size, 1, none⟩ = some (.bool r.2)) ∧ (w4.cell? ⟨gx, 0, none⟩ = some (.int .i32 r.1) ∧ w4.frozen? ⟨gx, 0, none⟩ = false) ∧ Hid (∀ v, RO w (w4.setCell ⟨gx, 0, none⟩ v) w.heap.size rm r (w3.heap.size + 1) w4.heap.size) := by
  refine (push_o w _ _ rm r _ _ (fun P => (h3 P).past (belA (Below.refl _ _) _)) (belA hb3 _) (Nat.le_refl _) (hr3.past (belA (Below.refl _ _) _)) hm1 hm2).mono fun e w4 hp => ?_
  obtain ⟨rfl, hq4, hk4, hb4⟩ := hp
  have hh4 := (hb4.block w3.heap.size (by simp) (fun e => by have := (h3 fun _ => True).lt; omega)).trans (heap_alloc_new w3 _)
  have hx4 : RVo P3 w4 (.slice (some ⟨gx, 0, none⟩) 1 cx) (.bool r.2) (some r) := hk4.2 P3 _ _ (some r) (hr3.past (belA (Below.refl _ _) _))
  have hx5 := RV.first hx4
  have hlt := hr3.first.2.1
  have hs : (w3.alloc (.cells #[.slice (some ⟨gx, 0, none⟩) 1 cx, .bool r.2] 43)).heap.size = w3.heap.size + 1 := by simp
  rw [hs] at hq4
  exact ⟨rfl, ⟨cell_of_row _ _ 0 _ _ _ hh4, cell_of_row _ _ 1 _ _ _ hh4⟩, hx5.1, Lib.hid fun v => hq4.store hx4 hgx (.inl (by omega)) 0 v⟩
theorem four_cells {wr W : World} {a1 a2 a3 a4 : Addr} {v1 v2 v3 v4 : Value} (h : (W.cell? a1 = some v1 ∧ W.cell? a2 = some v2 ∧ W.cell? a3 = some v3 ∧ W.cell? a4 = some v4) ∧ (a1.block < W.heap.size ∧ a2.block < W.heap.size ∧ a3.block < W.heap.size ∧ a4.block < W.heap.size) ∧ Below wr.heap.size wr W) : W.cell? a1 = some v1 ∧ W.cell? a2 = some v2 := ⟨h.1.1, h.1.2.1⟩
/-- A row's first cell may be written. -/
theorem RO.store_of {w0 w7 : World} {D room lo hi : Nat} {r : Int × Bool} {B g c : Nat} {b : Bool} (h : RO w0 w7 D room r lo hi) (hv : RV (fun b => B ≤ b) w7 (.slice (some ⟨g, 0, none⟩) 1 c) (.bool b) r) (hB : hi ≤ B) (hw : w0.heap.size ≤ B) :
    Hid (∀ W, Below w7.heap.size w7 W → (W.cell? ⟨g, 0, none⟩ = some (.int .i32 r.1) ∧ W.frozen? ⟨g, 0, none⟩ = false) ∧ Hid (∀ v, RO w0 (W.setCell ⟨g, 0, none⟩ v) D room r lo hi ∧ hi ≤ (W.setCell ⟨g, 0, none⟩ v).heap.size ∧ w0.heap.size ≤ (W.setCell ⟨g, 0, none⟩ v).heap.size)) := Lib.hid fun W hW => by
  have h1 := (hv.past hW).first
  exact ⟨h1.1, Lib.hid fun v => ⟨(h.past hW).store (hv.past hW) (Nat.le_trans hw h1.2.2) (.inr (Nat.le_trans hB h1.2.2)) 0 v, by rw [World.size_setCell]; omega, by rw [World.size_setCell]; omega⟩⟩
set_option maxRecDepth 100000 in
set_option maxHeartbeats 8000000 in
theorem ringOwn_law (x y : Int) (hx0 : 0 ≤ x) (hx1 : x ≤ 255) (hy0 : 0 ≤ y) (hy1 : y ≤ 255) (w : World) : Calls Try.prog 5 #[.int .u8 x, .int .u8 y] w fun e w' => e = .returned (.bool true) ∧ Below w.heap.size w w' := by
  obtain ⟨rm, hrm, hrm1⟩ : ∃ rm : Nat, 1 + x = rm ∧ 1 ≤ rm ∧ rm ≤ 256 := ⟨(1 + x).toNat, by omega, by omega, by omega⟩
  have hw0 : IntKind.i64.wrap x = x := IntWalk.i64_in _ (by omega)
  have hw1 : IntKind.i64.wrap (1 + x) = rm := by rw [hrm]; exact IntWalk.i64_in _ (by omega)
  have hw2 : IntKind.i64.wrap y = y := IntWalk.i64_in _ (by omega)
  have hm1 : rm ≤ 1000000 := by omega
  have hm2 : 1 ≤ rm := hrm1.1
  have HNEW := Lib.hid (new_any rm (by omega) w)
  have HAW := Lib.hid (fun W => awake_any W)
  have HROW : Hid (∀ W, Calls Try.prog 17 #[.int .i64 y] W fun e w' => ∃ g c, e = .returned (.agg #[.slice (some ⟨g, 0, none⟩) 1 c, .bool (rowZ y).2]) ∧ Below W.heap.size W w' ∧ RV (fun b => W.heap.size ≤ b) w' (.slice (some ⟨g, 0, none⟩) 1 c) (.bool (rowZ y).2) (rowZ y)) := Lib.hid fun W => row_any y (by omega) W
  generalize rowZ y = r at *
  clear hrm hrm1
  go_enter Try.func5, Try.ntmps5
  go_wp2_with (first
    | (go_at_call 9; go_must (with_reducible refine HNEW.out.mono ?_; rintro e1 w1 ⟨rfl, hb1, hq1⟩; have HB1 := Lib.hid hb1; have HQ1 := Lib.hid hq1; clear hq1 hb1 HNEW))
    | (go_at_call 8; go_must (with_reducible refine (HAW.out _).mono ?_; rintro e2 w2 ⟨rfl, hb2⟩; have HB2 := Lib.hid (bel0 HB1.out hb2); have HQ2 := Lib.hid (fun P => (HQ1.out P).past hb2); clear hb2 HAW HB1 HQ1))
    | (go_at_call 17; go_must (with_reducible refine (HROW.out _).mono ?_; rintro e3 w3 ⟨gx, cx, rfl, hb3, hr3⟩; have HB3 := Lib.hid (bel0 HB2.out hb3); have HQ3 := Lib.hid (fun P => (HQ2.out P).past hb3); have hgx := hr3.first.2; have HGX := Lib.hid (And.intro (Nat.le_trans HB2.out.size hgx.2) hgx.1); have HR3 := Lib.hid hr3; clear hb3 hr3 hgx HB2 HQ2))
    | (go_at_call 16; go_must (with_reducible refine (own_push w w3 rm gx cx r HQ3.out HB3.out HR3.out HGX.out.1 hm1 hm2).mono ?_; rintro e4 w4 ⟨rfl, ⟨b40, b41⟩, ⟨x40, x4f⟩, HRO5⟩; have HW4 : Hid (w.heap.size ≤ w4.heap.size) := Lib.hid (by have := (HRO5.out (.int .i32 0)).below.size; rwa [World.size_setCell] at this); clear HQ3 HR3 HB3))
    | (go_at_call 19; go_must (with_reducible refine (at_o w _ _ _ _ _ r (HRO5.out _)).mono ?_; rintro e6 w6 ⟨ga, ca, rfl, hb6, hr6⟩; have HRO6 := Lib.hid ((HRO5.out _).past hb6); have HR6 := Lib.hid hr6; clear hb6 hr6 HRO5)))
  have HS6 : Hid (w4.heap.size ≤ (w4.setCell ⟨gx, 0, none⟩ (.int .i32 77777)).heap.size ∧ w.heap.size ≤ w4.heap.size) := Lib.hid ⟨by rw [World.size_setCell]; exact Nat.le_refl _, by have := HW4.out; omega⟩
  have hb7 := belA (Below.refl w6.heap.size w6) (.cells #[.slice (some ⟨ga, 0, none⟩) 1 ca, .bool r.2] 43)
  have HST := RO.store_of (HRO6.out.past hb7) (HR6.out.past hb7) HS6.out.1 (Nat.le_trans HS6.out.2 HS6.out.1)
  have HV := Lib.hid (HR6.out.past hb7)
  have h7 := heap_alloc_new w6 (.cells #[.slice (some ⟨ga, 0, none⟩) 1 ca, .bool r.2] 43)
  have hs : w6.heap.size < (w6.alloc (.cells #[.slice (some ⟨ga, 0, none⟩) 1 ca, .bool r.2] 43)).heap.size := by simp
  clear hb7 HRO6 HR6
  generalize w6.alloc (.cells #[.slice (some ⟨ga, 0, none⟩) 1 ca, .bool r.2] 43) = w7 at *
  generalize w6.heap.size = B8 at *
  have c0 := cell_of_row _ _ 0 _ _ _ h7
  have c1 := cell_of_row _ _ 1 _ _ _ h7
  clear h7
  generalize hrq : r.2 = q at *
  have HRQ := Lib.hid hrq
  clear hrq b40 b41 x40 x4f
  change w7.cell? ⟨B8, 0, none⟩ = some (.slice (some ⟨ga, 0, none⟩) 1 ca) at c0
  change w7.cell? ⟨B8, 1, none⟩ = some (.bool q) at c1
  have hS : (w7.cell? ⟨B8, 0, none⟩ = some (.slice (some ⟨ga, 0, none⟩) 1 ca) ∧ w7.cell? ⟨B8, 1, none⟩ = some (.bool q) ∧ w7.cell? ⟨B8, 0, none⟩ = some (.slice (some ⟨ga, 0, none⟩) 1 ca) ∧ w7.cell? ⟨B8, 1, none⟩ = some (.bool q)) ∧ (B8 < w7.heap.size ∧ B8 < w7.heap.size ∧ B8 < w7.heap.size ∧ B8 < w7.heap.size) ∧ Below w7.heap.size w7 w7 := ⟨⟨c0, c1, c0, c1⟩, ⟨hs, hs, hs, hs⟩, Below.refl _ _⟩
  have hSd := four_step (a1 := ⟨B8, 0, none⟩) (a2 := ⟨B8, 1, none⟩) (a3 := ⟨B8, 0, none⟩) (a4 := ⟨B8, 1, none⟩) hS (Below.refl w7.heap.size w7).drew
  have HONE : Hid (∀ W P g' c', Below w7.heap.size w7 W → RV P W (.slice (some ⟨g', 0, none⟩) 1 c') (.bool q) r → Calls Try.prog 20 #[.agg #[.slice (some ⟨ga, 0, none⟩) 1 ca, .bool q], .agg #[.slice (some ⟨g', 0, none⟩) 1 c', .bool q]] W fun e w' => e = .returned (.bool true) ∧ Below W.heap.size W w') := Lib.hid fun W P g' c' hW hr => one_any _ _ _ _ (some r) W (HV.out.past hW) hr
  clear hS c0 c1 hs
  go_region_held3 (fun W => (W.cell? ⟨B8, 0, none⟩ = some (.slice (some ⟨ga, 0, none⟩) 1 ca) ∧ W.cell? ⟨B8, 1, none⟩ = some (.bool q) ∧ W.cell? ⟨B8, 0, none⟩ = some (.slice (some ⟨ga, 0, none⟩) 1 ca) ∧ W.cell? ⟨B8, 1, none⟩ = some (.bool q)) ∧ (B8 < W.heap.size ∧ B8 < W.heap.size ∧ B8 < W.heap.size ∧ B8 < W.heap.size) ∧ Below w7.heap.size w7 W)
    (first | exact hSd | exact four_step (a1 := ⟨B8, 0, none⟩) (a2 := ⟨B8, 1, none⟩) (a3 := ⟨B8, 0, none⟩) (a4 := ⟨B8, 1, none⟩) hSd hbx | exact four_step (a1 := ⟨B8, 0, none⟩) (a2 := ⟨B8, 1, none⟩) (a3 := ⟨B8, 0, none⟩) (a4 := ⟨B8, 1, none⟩) (by assumption) hbx | assumption)
    (first
      | (go_at_call 17; (with_reducible refine (HROW.out _).mono ?_); rintro e8 w8 ⟨gb, cb, rfl, hbx, hrb⟩; have HRB := Lib.hid hrb; clear hrb)
      | (go_at_call 20; (with_reducible refine (HONE.out _ _ _ _ ?_ HRB.out).mono ?_); (first | exact hSd.2.2 | exact four_below (by assumption)); rintro e8 w8 ⟨rfl, hbx⟩))
  all_goals
    obtain ⟨n0, n1⟩ := four_cells (a1 := ⟨B8, 0, none⟩) (a2 := ⟨B8, 1, none⟩) (a3 := ⟨B8, 0, none⟩) (a4 := ⟨B8, 1, none⟩) (by assumption)
    obtain ⟨⟨a0, af⟩, HRO9⟩ := HST.out _ (four_below (a1 := ⟨B8, 0, none⟩) (a2 := ⟨B8, 1, none⟩) (a3 := ⟨B8, 0, none⟩) (a4 := ⟨B8, 1, none⟩) (by assumption))
    clear HST hSd HONE HV
    go_wp2_with (go_at_call 14; go_must (with_reducible refine (all_o w _ _ _ _ _ r (HRO9.out _).1).mono ?_; rintro e10 w10 ⟨G, gl, cl, rfl, hb10, ⟨c0, c1⟩, hs, hr10⟩; rw [HRQ.out] at c1 hr10; have HST := RO.store_of ((HRO9.out _).1.past hb10) hr10 (HRO9.out _).2.1 (HRO9.out _).2.2; have HV := Lib.hid hr10; clear hb10 hr10 HRO9 n0 n1 a0 af))
    have hS : (w10.cell? ⟨G, 0, none⟩ = some (.slice (some ⟨gl, 0, none⟩) 1 cl) ∧ w10.cell? ⟨G, 1, none⟩ = some (.bool q) ∧ w10.cell? ⟨G, 0, none⟩ = some (.slice (some ⟨gl, 0, none⟩) 1 cl) ∧ w10.cell? ⟨G, 1, none⟩ = some (.bool q)) ∧ (G < w10.heap.size ∧ G < w10.heap.size ∧ G < w10.heap.size ∧ G < w10.heap.size) ∧ Below w10.heap.size w10 w10 := ⟨⟨c0, c1, c0, c1⟩, ⟨hs, hs, hs, hs⟩, Below.refl _ _⟩
    have hSd := four_step (a1 := ⟨G, 0, none⟩) (a2 := ⟨G, 1, none⟩) (a3 := ⟨G, 0, none⟩) (a4 := ⟨G, 1, none⟩) hS (Below.refl w10.heap.size w10).drew
    have HONE : Hid (∀ W P g' c', Below w10.heap.size w10 W → RV P W (.slice (some ⟨g', 0, none⟩) 1 c') (.bool q) r → Calls Try.prog 20 #[.agg #[.slice (some ⟨gl, 0, none⟩) 1 cl, .bool q], .agg #[.slice (some ⟨g', 0, none⟩) 1 c', .bool q]] W fun e w' => e = .returned (.bool true) ∧ Below W.heap.size W w') := Lib.hid fun W P g' c' hW hr => one_any _ _ _ _ (some r) W (HV.out.past hW) hr
    clear hS c0 c1 hs
    go_region_held3 (fun W => (W.cell? ⟨G, 0, none⟩ = some (.slice (some ⟨gl, 0, none⟩) 1 cl) ∧ W.cell? ⟨G, 1, none⟩ = some (.bool q) ∧ W.cell? ⟨G, 0, none⟩ = some (.slice (some ⟨gl, 0, none⟩) 1 cl) ∧ W.cell? ⟨G, 1, none⟩ = some (.bool q)) ∧ (G < W.heap.size ∧ G < W.heap.size ∧ G < W.heap.size ∧ G < W.heap.size) ∧ Below w10.heap.size w10 W)
      (first | exact hSd | exact four_step (a1 := ⟨G, 0, none⟩) (a2 := ⟨G, 1, none⟩) (a3 := ⟨G, 0, none⟩) (a4 := ⟨G, 1, none⟩) hSd hbx | exact four_step (a1 := ⟨G, 0, none⟩) (a2 := ⟨G, 1, none⟩) (a3 := ⟨G, 0, none⟩) (a4 := ⟨G, 1, none⟩) (by assumption) hbx | assumption)
      (first
        | (go_at_call 17; (with_reducible refine (HROW.out _).mono ?_); rintro e8 w8 ⟨gb, cb, rfl, hbx, hrb⟩; have HRB := Lib.hid hrb; clear hrb)
        | (go_at_call 20; (with_reducible refine (HONE.out _ _ _ _ ?_ HRB.out).mono ?_); (first | exact hSd.2.2 | exact four_below (by assumption)); rintro e8 w8 ⟨rfl, hbx⟩))
    all_goals
      obtain ⟨n0, n1⟩ := four_cells (a1 := ⟨G, 0, none⟩) (a2 := ⟨G, 1, none⟩) (a3 := ⟨G, 0, none⟩) (a4 := ⟨G, 1, none⟩) (by assumption)
      obtain ⟨⟨a0, af⟩, HRO9⟩ := HST.out _ (four_below (a1 := ⟨G, 0, none⟩) (a2 := ⟨G, 1, none⟩) (a3 := ⟨G, 0, none⟩) (a4 := ⟨G, 1, none⟩) (by assumption))
      clear HST hSd HONE HV
      go_wp2_with (go_at_call 21; go_must (with_reducible refine (pop_o w _ _ _ _ _ r (HRO9.out _).1).mono ?_; rintro e13 w13 ⟨gp, cp, rfl, hb13, hr13⟩; rw [HRQ.out] at hr13; rw [HRQ.out]; have HB13 := Lib.hid hb13; have HR13 := Lib.hid hr13; clear hb13 hr13 HRO9 n0 n1 a0 af))
      have hb14 := belA (Below.refl w13.heap.size w13) (.cells #[.slice (some ⟨gp, 0, none⟩) 1 cp, .bool q] 43)
      have HV := Lib.hid (HR13.out.past hb14)
      have HB14 := Lib.hid (bel0 HB13.out hb14)
      have h14 := heap_alloc_new w13 (.cells #[.slice (some ⟨gp, 0, none⟩) 1 cp, .bool q] 43)
      have hs : w13.heap.size < (w13.alloc (.cells #[.slice (some ⟨gp, 0, none⟩) 1 cp, .bool q] 43)).heap.size := by simp
      clear hb14 HR13 HB13
      generalize w13.alloc (.cells #[.slice (some ⟨gp, 0, none⟩) 1 cp, .bool q] 43) = w14 at *
      generalize w13.heap.size = B11 at *
      have c0 := cell_of_row _ _ 0 _ _ _ h14
      have c1 := cell_of_row _ _ 1 _ _ _ h14
      clear h14
      change w14.cell? ⟨B11, 0, none⟩ = some (.slice (some ⟨gp, 0, none⟩) 1 cp) at c0
      change w14.cell? ⟨B11, 1, none⟩ = some (.bool q) at c1
      have hS : (w14.cell? ⟨B11, 0, none⟩ = some (.slice (some ⟨gp, 0, none⟩) 1 cp) ∧ w14.cell? ⟨B11, 1, none⟩ = some (.bool q) ∧ w14.cell? ⟨B11, 0, none⟩ = some (.slice (some ⟨gp, 0, none⟩) 1 cp) ∧ w14.cell? ⟨B11, 1, none⟩ = some (.bool q)) ∧ (B11 < w14.heap.size ∧ B11 < w14.heap.size ∧ B11 < w14.heap.size ∧ B11 < w14.heap.size) ∧ Below w14.heap.size w14 w14 := ⟨⟨c0, c1, c0, c1⟩, ⟨hs, hs, hs, hs⟩, Below.refl _ _⟩
      have hSd := four_step (a1 := ⟨B11, 0, none⟩) (a2 := ⟨B11, 1, none⟩) (a3 := ⟨B11, 0, none⟩) (a4 := ⟨B11, 1, none⟩) hS (Below.refl w14.heap.size w14).drew
      have HONE : Hid (∀ W P g' c', Below w14.heap.size w14 W → RV P W (.slice (some ⟨g', 0, none⟩) 1 c') (.bool q) r → Calls Try.prog 20 #[.agg #[.slice (some ⟨gp, 0, none⟩) 1 cp, .bool q], .agg #[.slice (some ⟨g', 0, none⟩) 1 c', .bool q]] W fun e w' => e = .returned (.bool true) ∧ Below W.heap.size W w') := Lib.hid fun W P g' c' hW hr => one_any _ _ _ _ (some r) W (HV.out.past hW) hr
      clear hS c0 c1 hs
      go_region_held3 (fun W => (W.cell? ⟨B11, 0, none⟩ = some (.slice (some ⟨gp, 0, none⟩) 1 cp) ∧ W.cell? ⟨B11, 1, none⟩ = some (.bool q) ∧ W.cell? ⟨B11, 0, none⟩ = some (.slice (some ⟨gp, 0, none⟩) 1 cp) ∧ W.cell? ⟨B11, 1, none⟩ = some (.bool q)) ∧ (B11 < W.heap.size ∧ B11 < W.heap.size ∧ B11 < W.heap.size ∧ B11 < W.heap.size) ∧ Below w14.heap.size w14 W)
        (first | exact hSd | exact four_step (a1 := ⟨B11, 0, none⟩) (a2 := ⟨B11, 1, none⟩) (a3 := ⟨B11, 0, none⟩) (a4 := ⟨B11, 1, none⟩) hSd hbx | exact four_step (a1 := ⟨B11, 0, none⟩) (a2 := ⟨B11, 1, none⟩) (a3 := ⟨B11, 0, none⟩) (a4 := ⟨B11, 1, none⟩) (by assumption) hbx | assumption)
        (first
          | (go_at_call 17; (with_reducible refine (HROW.out _).mono ?_); rintro e8 w8 ⟨gb, cb, rfl, hbx, hrb⟩; have HRB := Lib.hid hrb; clear hrb)
          | (go_at_call 20; (with_reducible refine (HONE.out _ _ _ _ ?_ HRB.out).mono ?_); (first | exact hSd.2.2 | exact four_below (by assumption)); rintro e8 w8 ⟨rfl, hbx⟩))
      all_goals
        have HBE := Lib.hid (bel0 HB14.out (four_below (a1 := ⟨B11, 0, none⟩) (a2 := ⟨B11, 1, none⟩) (a3 := ⟨B11, 0, none⟩) (a4 := ⟨B11, 1, none⟩) (by assumption)))
        go_wp2
        go_ret
        exact ⟨rfl, HBE.out⟩
end Go.Proofs.Ytfablhfjjlmdgaa
