/- The walks of otherHalf, isPair, standsAlone. -/
import Derived.Test.YtfjgfmeanehpmaaGd
import Derived.StillTailTactics
import Derived.Deep.RegionHeld3
namespace Go.Proofs.Ytfjgfmeanehpmaa
open Go.RowKit

set_option maxRecDepth 100000 in
set_option maxHeartbeats 2000000 in
theorem otherHalf_left (x : CC) (hx : x.h = 1) (w : World) : Calls Try.prog 57 #[.agg #[.int .i32 x.r, .string x.m, .int .i64 x.h, .int .i64 x.fk, .int .i64 x.fn, .int .i64 x.bk, .int .i64 x.bn, .int .i64 x.fl]] w fun e w' => e = .returned (.agg #[.int .i32 x.r, .string x.m, .int .i64 2, .int .i64 x.fk, .int .i64 x.fn, .int .i64 x.bk, .int .i64 x.bn, .int .i64 x.fl]) ∧ Below w.heap.size w w' := by
  obtain ⟨r, m, h, a1, a2, a3, a4, a5⟩ := x
  have hx : h = 1 := hx
  subst hx
  show Calls Try.prog 57 #[.agg #[.int .i32 r, .string m, .int .i64 1, .int .i64 a1, .int .i64 a2, .int .i64 a3, .int .i64 a4, .int .i64 a5]] w fun e w' => e = .returned (.agg #[.int .i32 r, .string m, .int .i64 2, .int .i64 a1, .int .i64 a2, .int .i64 a3, .int .i64 a4, .int .i64 a5]) ∧ Below w.heap.size w w'
  go_enter Try.func57, Try.ntmps57
  go_wp2
  refine bodyPost_ret (v := .agg #[.int .i32 r, .string m, .int .i64 2, .int .i64 a1, .int .i64 a2, .int .i64 a3, .int .i64 a4, .int .i64 a5]) (by simp [results, Try.results57, go_sem]) rfl ⟨rfl, ?_⟩
  exact belA (belA (Below.refl _ _) _) _
set_option maxRecDepth 100000 in
set_option maxHeartbeats 2000000 in
theorem otherHalf_other (x : CC) (hx : x.h ≠ 1) (w : World) : Calls Try.prog 57 #[.agg #[.int .i32 x.r, .string x.m, .int .i64 x.h, .int .i64 x.fk, .int .i64 x.fn, .int .i64 x.bk, .int .i64 x.bn, .int .i64 x.fl]] w fun e w' => e = .returned (.agg #[.int .i32 x.r, .string x.m, .int .i64 1, .int .i64 x.fk, .int .i64 x.fn, .int .i64 x.bk, .int .i64 x.bn, .int .i64 x.fl]) ∧ Below w.heap.size w w' := by
  obtain ⟨r, m, h, a1, a2, a3, a4, a5⟩ := x
  have hx : h ≠ 1 := hx
  have hd : (h == 1) = false := by simpa using hx
  show Calls Try.prog 57 #[.agg #[.int .i32 r, .string m, .int .i64 h, .int .i64 a1, .int .i64 a2, .int .i64 a3, .int .i64 a4, .int .i64 a5]] w fun e w' => e = .returned (.agg #[.int .i32 r, .string m, .int .i64 1, .int .i64 a1, .int .i64 a2, .int .i64 a3, .int .i64 a4, .int .i64 a5]) ∧ Below w.heap.size w w'
  go_enter Try.func57, Try.ntmps57
  go_wp2
  refine bodyPost_ret (v := .agg #[.int .i32 r, .string m, .int .i64 1, .int .i64 a1, .int .i64 a2, .int .i64 a3, .int .i64 a4, .int .i64 a5]) (by simp [results, Try.results57, go_sem]) rfl ⟨rfl, ?_⟩
  exact belA (belA (Below.refl _ _) _) _
set_option maxRecDepth 100000 in
set_option maxHeartbeats 2000000 in
theorem isPair_no (b o n c : Nat) (x : CC) (w : World) (h : C8 w b o x) (hn : 1 ≤ n) (hno : x.h ≠ 1 ∨ n = 1) :
    Calls Try.prog 55 #[.slice (some ⟨b, o, none⟩) n c] w fun e w' => e = .returned (.bool false) ∧ Below w.heap.size w w' := by
  obtain ⟨_, _, h2, _⟩ := h
  have hn0 : (0 : Int) < n := by omega
  by_cases hx : x.h = 1
  · have hn1 : n = 1 := by omega
    subst hn1
    rw [hx] at h2
    clear hno hx
    go_enter Try.func55, Try.ntmps55
    go_wp2
    go_quiet (fail)
    go_wp2
    go_ret
    exact ⟨rfl, belN' _ _⟩
  · have hd : (x.h == 1) = false := by simpa using hx
    generalize x.h = k at *
    clear hno hx
    go_enter Try.func55, Try.ntmps55
    go_wp2
    go_quiet (fail)
    go_wp2
    go_ret
    exact ⟨rfl, belN' _ _⟩
theorem pair16_step {wr W W' : World} {b o : Nat} {v0 v1 v2 v3 v4 v5 v6 v7 v8 v9 v10 v11 v12 v13 v14 v15 : Value} (h : (W.cell? ⟨b, o, none⟩ = some v0 ∧ W.cell? ⟨b, o + 1, none⟩ = some v1 ∧ W.cell? ⟨b, o + 2, none⟩ = some v2 ∧ W.cell? ⟨b, o + 3, none⟩ = some v3 ∧ W.cell? ⟨b, o + 4, none⟩ = some v4 ∧ W.cell? ⟨b, o + 5, none⟩ = some v5 ∧ W.cell? ⟨b, o + 6, none⟩ = some v6 ∧ W.cell? ⟨b, o + 7, none⟩ = some v7 ∧ W.cell? ⟨b, o + 8, none⟩ = some v8 ∧ W.cell? ⟨b, o + 8 + 1, none⟩ = some v9 ∧ W.cell? ⟨b, o + 8 + 2, none⟩ = some v10 ∧ W.cell? ⟨b, o + 8 + 3, none⟩ = some v11 ∧ W.cell? ⟨b, o + 8 + 4, none⟩ = some v12 ∧ W.cell? ⟨b, o + 8 + 5, none⟩ = some v13 ∧ W.cell? ⟨b, o + 8 + 6, none⟩ = some v14 ∧ W.cell? ⟨b, o + 8 + 7, none⟩ = some v15) ∧ b < W.heap.size ∧ Below wr.heap.size wr W) (hb : Below W.heap.size W W') : (W'.cell? ⟨b, o, none⟩ = some v0 ∧ W'.cell? ⟨b, o + 1, none⟩ = some v1 ∧ W'.cell? ⟨b, o + 2, none⟩ = some v2 ∧ W'.cell? ⟨b, o + 3, none⟩ = some v3 ∧ W'.cell? ⟨b, o + 4, none⟩ = some v4 ∧ W'.cell? ⟨b, o + 5, none⟩ = some v5 ∧ W'.cell? ⟨b, o + 6, none⟩ = some v6 ∧ W'.cell? ⟨b, o + 7, none⟩ = some v7 ∧ W'.cell? ⟨b, o + 8, none⟩ = some v8 ∧ W'.cell? ⟨b, o + 8 + 1, none⟩ = some v9 ∧ W'.cell? ⟨b, o + 8 + 2, none⟩ = some v10 ∧ W'.cell? ⟨b, o + 8 + 3, none⟩ = some v11 ∧ W'.cell? ⟨b, o + 8 + 4, none⟩ = some v12 ∧ W'.cell? ⟨b, o + 8 + 5, none⟩ = some v13 ∧ W'.cell? ⟨b, o + 8 + 6, none⟩ = some v14 ∧ W'.cell? ⟨b, o + 8 + 7, none⟩ = some v15) ∧ b < W'.heap.size ∧ Below wr.heap.size wr W' := by
  obtain ⟨⟨e0, e1, e2, e3, e4, e5, e6, e7, e8, e9, e10, e11, e12, e13, e14, e15⟩, l1, hB⟩ := h
  have hs := hb.size
  have e : ∀ k, W'.cell? ⟨b, k, none⟩ = W.cell? ⟨b, k, none⟩ := fun k => hb.cell (p := ⟨b, k, none⟩) l1
  exact ⟨⟨(e _).trans e0, (e _).trans e1, (e _).trans e2, (e _).trans e3, (e _).trans e4, (e _).trans e5, (e _).trans e6, (e _).trans e7, (e _).trans e8, (e _).trans e9, (e _).trans e10, (e _).trans e11, (e _).trans e12, (e _).trans e13, (e _).trans e14, (e _).trans e15⟩, by omega, bel0 hB hb⟩
set_option maxRecDepth 100000 in
set_option maxHeartbeats 2000000 in
theorem isPair_two (b o n c : Nat) (x y : CC) (w : World) (hlt : b < w.heap.size) (h : C8 w b o x) (h' : C8 w b (o + 8) y) (hn : 2 ≤ n) (hx : x.h = 1) :
    Calls Try.prog 55 #[.slice (some ⟨b, o, none⟩) n c] w fun e w' => e = .returned (.bool (pairB x y)) ∧ Below w.heap.size w w' := by
  have HO := Lib.hid (otherHalf_left x hx)
  have hq := fun W => eqCell W y { x with h := 2 }
  have HP : Hid (pairB x y = eqC y { x with h := 2 }) := Lib.hid (by unfold pairB; rw [hx]; rfl)
  simp only at hq
  generalize eqC y { x with h := 2 } = q at *
  obtain ⟨a0, a1, a2, a3, a4, a5, a6, a7⟩ := h
  obtain ⟨k0, k1, k2, k3, k4, k5, k6, k7⟩ := h'
  have hn0 : (0 : Int) < n := by omega
  have hn1 : (1 : Int) < n := by omega
  have hd1 : decide ((1 : Int) < n) = true := decide_eq_true hn1
  have hd2 : decide (1 < n) = true := decide_eq_true (by omega)
  have hg := Cell_guard
  rw [hx] at a2 HO
  generalize pairB x y = p at *
  have hS : (w.cell? ⟨b, o, none⟩ = some (.int .i32 x.r) ∧ w.cell? ⟨b, o + 1, none⟩ = some (.string x.m) ∧ w.cell? ⟨b, o + 2, none⟩ = some (.int .i64 1) ∧ w.cell? ⟨b, o + 3, none⟩ = some (.int .i64 x.fk) ∧ w.cell? ⟨b, o + 4, none⟩ = some (.int .i64 x.fn) ∧ w.cell? ⟨b, o + 5, none⟩ = some (.int .i64 x.bk) ∧ w.cell? ⟨b, o + 6, none⟩ = some (.int .i64 x.bn) ∧ w.cell? ⟨b, o + 7, none⟩ = some (.int .i64 x.fl) ∧ w.cell? ⟨b, o + 8, none⟩ = some (.int .i32 y.r) ∧ w.cell? ⟨b, o + 8 + 1, none⟩ = some (.string y.m) ∧ w.cell? ⟨b, o + 8 + 2, none⟩ = some (.int .i64 y.h) ∧ w.cell? ⟨b, o + 8 + 3, none⟩ = some (.int .i64 y.fk) ∧ w.cell? ⟨b, o + 8 + 4, none⟩ = some (.int .i64 y.fn) ∧ w.cell? ⟨b, o + 8 + 5, none⟩ = some (.int .i64 y.bk) ∧ w.cell? ⟨b, o + 8 + 6, none⟩ = some (.int .i64 y.bn) ∧ w.cell? ⟨b, o + 8 + 7, none⟩ = some (.int .i64 y.fl)) ∧ b < w.heap.size ∧ Below w.heap.size w w := ⟨⟨a0, a1, a2, a3, a4, a5, a6, a7, k0, k1, k2, k3, k4, k5, k6, k7⟩, hlt, Below.refl _ _⟩
  have hSd := pair16_step hS (Below.refl w.heap.size w).drew
  clear hS a0 a1 a2 a3 a4 a5 a6 a7 k0 k1 k2 k3 k4 k5 k6 k7
  have hn2 : 0 < n := by omega
  have hn3 : 1 < n := by omega
  clear hx
  go_enter Try.func55, Try.ntmps55
  go_wp2
  go_region_held3 (fun W => (W.cell? ⟨b, o, none⟩ = some (.int .i32 x.r) ∧ W.cell? ⟨b, o + 1, none⟩ = some (.string x.m) ∧ W.cell? ⟨b, o + 2, none⟩ = some (.int .i64 1) ∧ W.cell? ⟨b, o + 3, none⟩ = some (.int .i64 x.fk) ∧ W.cell? ⟨b, o + 4, none⟩ = some (.int .i64 x.fn) ∧ W.cell? ⟨b, o + 5, none⟩ = some (.int .i64 x.bk) ∧ W.cell? ⟨b, o + 6, none⟩ = some (.int .i64 x.bn) ∧ W.cell? ⟨b, o + 7, none⟩ = some (.int .i64 x.fl) ∧ W.cell? ⟨b, o + 8, none⟩ = some (.int .i32 y.r) ∧ W.cell? ⟨b, o + 8 + 1, none⟩ = some (.string y.m) ∧ W.cell? ⟨b, o + 8 + 2, none⟩ = some (.int .i64 y.h) ∧ W.cell? ⟨b, o + 8 + 3, none⟩ = some (.int .i64 y.fk) ∧ W.cell? ⟨b, o + 8 + 4, none⟩ = some (.int .i64 y.fn) ∧ W.cell? ⟨b, o + 8 + 5, none⟩ = some (.int .i64 y.bk) ∧ W.cell? ⟨b, o + 8 + 6, none⟩ = some (.int .i64 y.bn) ∧ W.cell? ⟨b, o + 8 + 7, none⟩ = some (.int .i64 y.fl)) ∧ b < W.heap.size ∧ Below w.heap.size w W)
    (first | exact hSd | exact pair16_step hSd hbx | exact pair16_step (by assumption) hbx | assumption)
    (first
      | (go_at_call 57; (with_reducible refine (HO.out _).mono ?_); rintro e8 w8 ⟨rfl, hbx⟩))
  all_goals
    go_wp2
    go_ret
    exact ⟨(by rw [HP.out]; try rfl), And.right (And.right (by assumption : (_ ∧ _ ∧ _)))⟩
set_option maxRecDepth 100000 in
set_option maxHeartbeats 2000000 in
theorem standsAlone_any (b o n c : Nat) (x : CC) (w : World) (h : C8 w b o x) (hn : 1 ≤ n) (q : Bool) (hq : decide (x.h = 0 ∨ x.h = 3 ∧ n = 1) = q) :
    Calls Try.prog 56 #[.slice (some ⟨b, o, none⟩) n c] w fun e w' => e = .returned (.bool q) ∧ w' = w := by
  obtain ⟨_, _, h2, _⟩ := h
  have hn0 : (0 : Int) < n := by omega
  by_cases h0 : x.h = 0
  · obtain rfl : true = q := by rw [← hq]; exact (decide_eq_true (.inl h0)).symm
    rw [h0] at h2
    clear hq h0
    go_enter Try.func56, Try.ntmps56
    go_wp2
    go_ret
    exact ⟨rfl, rfl⟩
  · have hd0 : (x.h == 0) = false := by simpa using h0
    by_cases h3 : x.h = 3
    · by_cases hn1 : n = 1
      · obtain rfl : true = q := by rw [← hq]; exact (decide_eq_true (.inr ⟨h3, hn1⟩)).symm
        rw [h3] at h2
        subst hn1
        clear hq h0 h3 hd0
        go_enter Try.func56, Try.ntmps56
        go_wp2
        go_ret
        exact ⟨rfl, rfl⟩
      · obtain rfl : false = q := by rw [← hq]; exact (decide_eq_false (by omega)).symm
        rw [h3] at h2
        have hd1 : ((n : Int) == 1) = false := by simp; omega
        clear hq h0 h3 hd0
        go_enter Try.func56, Try.ntmps56
        go_wp2
        go_ret
        exact ⟨rfl, rfl⟩
    · obtain rfl : false = q := by rw [← hq]; exact (decide_eq_false (by omega)).symm
      have hd3 : (x.h == 3) = false := by simpa using h3
      generalize x.h = k at *
      clear hq h0 h3
      go_enter Try.func56, Try.ntmps56
      go_wp2
      go_ret
      exact ⟨rfl, rfl⟩
end Go.Proofs.Ytfjgfmeanehpmaa
