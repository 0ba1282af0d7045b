/- The law ShiftMoves. -/
import Derived.Test.YtbloekdhafoniaaEd
import Derived.Deep.RegionHeld3
import Derived.Deep.DeepCutAuto
namespace Go.Proofs.Ytbloekdhafoniaa
open Go.RowKit

theorem five_step {wr W W' : World} {a b : Nat} {v1 v2 v3 v4 v5 : Value} (h : (W.cell? ⟨a, 0, none⟩ = some v1 ∧ W.cell? ⟨a, 1, none⟩ = some v2 ∧ W.cell? ⟨b, 0, none⟩ = some v3 ∧ W.cell? ⟨b, 1, none⟩ = some v4 ∧ W.cell? ⟨b, 2, none⟩ = some v5) ∧ (a < W.heap.size ∧ b < W.heap.size) ∧ Below wr.heap.size wr W) (hb : Below W.heap.size W W') :
    (W'.cell? ⟨a, 0, none⟩ = some v1 ∧ W'.cell? ⟨a, 1, none⟩ = some v2 ∧ W'.cell? ⟨b, 0, none⟩ = some v3 ∧ W'.cell? ⟨b, 1, none⟩ = some v4 ∧ W'.cell? ⟨b, 2, none⟩ = some v5) ∧ (a < W'.heap.size ∧ b < W'.heap.size) ∧ Below wr.heap.size wr W' := by
  obtain ⟨⟨e1, e2, e3, e4, e5⟩, ⟨l1, l2⟩, hB⟩ := h
  have hs := hb.size
  exact ⟨⟨(hb.cell (p := ⟨a, 0, none⟩) l1).trans e1, (hb.cell (p := ⟨a, 1, none⟩) l1).trans e2, (hb.cell (p := ⟨b, 0, none⟩) l2).trans e3, (hb.cell (p := ⟨b, 1, none⟩) l2).trans e4, (hb.cell (p := ⟨b, 2, none⟩) l2).trans e5⟩, ⟨by omega, by omega⟩, bel0 hB hb⟩

theorem five_below {wr W : World} {a b : Nat} {v1 v2 v3 v4 v5 : Value} (h : (W.cell? ⟨a, 0, none⟩ = some v1 ∧ W.cell? ⟨a, 1, none⟩ = some v2 ∧ W.cell? ⟨b, 0, none⟩ = some v3 ∧ W.cell? ⟨b, 1, none⟩ = some v4 ∧ W.cell? ⟨b, 2, none⟩ = some v5) ∧ (a < W.heap.size ∧ b < W.heap.size) ∧ Below wr.heap.size wr W) : Below wr.heap.size wr W := h.2.2
theorem right_b (k a n : Int) (b : Bool) (h : okS k a n = b) (w : World) : Calls Try.prog 14 #[.agg #[.int .i64 k, .int .i64 a, .int .i64 n]] w fun e w' => e = .returned (.bool b) ∧ Below w.heap.size w w' :=
  (right_as k a n b h w).mono fun _ _ ⟨he, hw⟩ => ⟨he, hw ▸ belA (Below.refl _ _) _⟩
theorem refShift_b (k a n : Int) (b : Bool) (h : okS k a n = b) (w : World) : Calls Try.prog 10 #[.agg #[.int .i64 k, .int .i64 a, .int .i64 n]] w fun e w' => e = .returned (.bool b) ∧ Below w.heap.size w w' :=
  (refShift_as k a n b h w).mono fun _ _ ⟨he, hw⟩ => ⟨he, hw ▸ belA (Below.refl _ _) _⟩
theorem beq_b (b : Bool) : (b == b) = true := by simp

set_option maxRecDepth 100000 in
set_option maxHeartbeats 8000000 in
theorem shiftMoves_law (r c k a n : Int) (w : World) :
    Calls Try.prog 3 #[.agg #[.int .i64 r, .int .i64 c], .agg #[.int .i64 k, .int .i64 a, .int .i64 n]] w fun e w' => e = .returned (.bool true) ∧ Below w.heap.size w w' := by
  have HLD : Hid (lostB r c k a n = (okP r c && okS k a n && decide (k ≠ 0) && decide (begZ k a ≤ r) && decide (r < begZ k a + n))) := Lib.hid rfl
  have HM := Lib.hid (move_any r c k a n)
  have HR := Lib.hid (refMove_any r c k a n)
  have HL := Lib.hid (lost_as r c k a n _ rfl)
  have E1 := fun W => eqPos_self W (moveZ r c k a n).1 (moveZ r c k a n).2
  generalize (moveZ r c k a n).1 = m1 at *
  generalize (moveZ r c k a n).2 = m2 at *
  have hg := guardPos
  obtain ⟨s, hs⟩ : ∃ s, okS k a n = s := ⟨_, rfl⟩
  have HSS := Lib.hid hs
  have HS := Lib.hid (right_b k a n s hs)
  have HT := Lib.hid (refShift_as k a n s hs)
  have HT2 := Lib.hid (refShift_b k a n s hs)
  obtain ⟨b, hb⟩ : ∃ b, lostB r c k a n = b := ⟨_, rfl⟩
  rw [hb] at HL HLD
  have hbb := beq_b b
  have hss := beq_b s
  clear hs hb
  go_enter Try.func3, Try.ntmps3
  go_upto_region 1 with fail
  go_cut [5] (fun s5 wx => s5 = .bool b ∧ ((w.alloc (.cells #[.int .i64 r, .int .i64 c] 23)).alloc (.cells #[.int .i64 k, .int .i64 a, .int .i64 n] 25)).alloc (.cells #[.int .i64 k, .int .i64 a, .int .i64 n] 25) = wx)
  case first =>
    clear HM HR HL HS HT2 E1 hg hbb hss
    cases s with
    | false =>
      have hb : b = false := by rw [HLD.out, HSS.out]; simp
      subst hb
      clear HLD HSS
      go_wp2_with (go_at_call 10; (with_reducible refine (HT.out _).mono ?_); rintro e w' ⟨rfl, rfl⟩)
      go_meet
      exact ⟨rfl, rfl⟩
    | true =>
      cases h1 : num r with
      | false =>
        have hb : b = false := by rw [HLD.out, okP, h1]; simp
        subst hb
        have H1 := Lib.hid (refRight_as r _ h1)
        clear HLD HSS h1
        go_wp2_with (first
          | (go_at_call 10; (with_reducible refine (HT.out _).mono ?_); rintro e w' ⟨rfl, rfl⟩)
          | (go_at_call 11; (with_reducible refine (H1.out _).mono ?_); rintro e w' ⟨rfl, rfl⟩))
        go_meet
        exact ⟨rfl, rfl⟩
      | true =>
      have H1 := Lib.hid (refRight_as r _ h1)
      cases h2 : num c with
      | false =>
        have hb : b = false := by rw [HLD.out, okP, h1, h2]; simp
        subst hb
        have H2 := Lib.hid (refRight_as c _ h2)
        clear HLD HSS h1 h2
        go_wp2_with (first
          | (go_at_call 10; (with_reducible refine (HT.out _).mono ?_); rintro e w' ⟨rfl, rfl⟩)
          | (go_at_call 11; (with_reducible refine (H1.out _).mono ?_); rintro e w' ⟨rfl, rfl⟩)
          | (go_at_call 11; (with_reducible refine (H2.out _).mono ?_); rintro e w' ⟨rfl, rfl⟩))
        go_meet
        exact ⟨rfl, rfl⟩
      | true =>
      have H2 := Lib.hid (refRight_as c _ h2)
      obtain ⟨a1, a2, n1, n2, k1, k2⟩ := okS_t HSS.out
      obtain ⟨r1, r2⟩ := num_t h1
      have hw : IntKind.i64.wrap (r - a) = r - a := by rw [IntKind.wrap_i64]; omega
      have HB : Hid (b = (decide (k ≠ 0) && decide (begZ k a ≤ r) && decide (r < begZ k a + n))) := Lib.hid (by rw [HLD.out, okP, h1, h2, HSS.out]; simp)
      clear HLD HSS h1 h2
      rcases (by omega : k = 0 ∨ k = 1 ∨ k = 2) with rfl | rfl | rfl
      · have hb : b = false := by rw [HB.out]; rfl
        subst hb
        clear HB a1 a2 n1 n2 k1 k2 r1 r2
        go_wp2_with (first
          | (go_at_call 10; (with_reducible refine (HT.out _).mono ?_); rintro e w' ⟨rfl, rfl⟩)
          | (go_at_call 11; (with_reducible refine (H1.out _).mono ?_); rintro e w' ⟨rfl, rfl⟩)
          | (go_at_call 11; (with_reducible refine (H2.out _).mono ?_); rintro e w' ⟨rfl, rfl⟩))
        go_meet
        exact ⟨rfl, rfl⟩
      · have hb := HB.out
        rw [show begZ 1 a = a from rfl] at hb
        by_cases hge : a ≤ r
        · by_cases hlt : r - a < n
          · rw [show decide (r < a + n) = true from decide_eq_true (by omega), show decide (a ≤ r) = true from decide_eq_true hge] at hb
            subst hb
            have hd1 : decide (a ≤ r) = true := decide_eq_true hge
            have hd2 : decide (r - a < n) = true := decide_eq_true hlt
            clear HB a1 a2 n1 n2 k1 k2 r1 r2 hge hlt
            go_wp2_with (first
              | (go_at_call 10; (with_reducible refine (HT.out _).mono ?_); rintro e w' ⟨rfl, rfl⟩)
              | (go_at_call 11; (with_reducible refine (H1.out _).mono ?_); rintro e w' ⟨rfl, rfl⟩)
              | (go_at_call 11; (with_reducible refine (H2.out _).mono ?_); rintro e w' ⟨rfl, rfl⟩))
            go_meet
            exact ⟨rfl, rfl⟩
          · rw [show decide (r < a + n) = false from decide_eq_false (by omega), Bool.and_false] at hb
            subst hb
            have hd1 : decide (a ≤ r) = true := decide_eq_true hge
            have hd2 : decide (r - a < n) = false := decide_eq_false hlt
            clear HB a1 a2 n1 n2 k1 k2 r1 r2 hge hlt
            go_wp2_with (first
              | (go_at_call 10; (with_reducible refine (HT.out _).mono ?_); rintro e w' ⟨rfl, rfl⟩)
              | (go_at_call 11; (with_reducible refine (H1.out _).mono ?_); rintro e w' ⟨rfl, rfl⟩)
              | (go_at_call 11; (with_reducible refine (H2.out _).mono ?_); rintro e w' ⟨rfl, rfl⟩))
            go_meet
            exact ⟨rfl, rfl⟩
        · rw [show decide (a ≤ r) = false from decide_eq_false hge, Bool.and_false, Bool.false_and] at hb
          subst hb
          have hd1 : decide (a ≤ r) = false := decide_eq_false hge
          clear HB a1 a2 n1 n2 k1 k2 r1 r2 hge hw
          go_wp2_with (first
            | (go_at_call 10; (with_reducible refine (HT.out _).mono ?_); rintro e w' ⟨rfl, rfl⟩)
            | (go_at_call 11; (with_reducible refine (H1.out _).mono ?_); rintro e w' ⟨rfl, rfl⟩)
            | (go_at_call 11; (with_reducible refine (H2.out _).mono ?_); rintro e w' ⟨rfl, rfl⟩))
          go_meet
          exact ⟨rfl, rfl⟩
      · have hb := HB.out
        rw [show begZ 2 a = 0 from rfl, Int.zero_add, show decide (0 ≤ r) = true from decide_eq_true r1] at hb
        by_cases hlt : r < n
        · rw [show decide (r < n) = true from decide_eq_true hlt] at hb
          subst hb
          have hd2 : decide (r < n) = true := decide_eq_true hlt
          clear HB a1 a2 n1 n2 k1 k2 r1 r2 hlt hw
          go_wp2_with (first
            | (go_at_call 10; (with_reducible refine (HT.out _).mono ?_); rintro e w' ⟨rfl, rfl⟩)
            | (go_at_call 11; (with_reducible refine (H1.out _).mono ?_); rintro e w' ⟨rfl, rfl⟩)
            | (go_at_call 11; (with_reducible refine (H2.out _).mono ?_); rintro e w' ⟨rfl, rfl⟩))
          go_meet
          exact ⟨rfl, rfl⟩
        · rw [show decide (r < n) = false from decide_eq_false hlt, Bool.and_false] at hb
          subst hb
          have hd2 : decide (r < n) = false := decide_eq_false hlt
          clear HB a1 a2 n1 n2 k1 k2 r1 r2 hlt hw
          go_wp2_with (first
            | (go_at_call 10; (with_reducible refine (HT.out _).mono ?_); rintro e w' ⟨rfl, rfl⟩)
            | (go_at_call 11; (with_reducible refine (H1.out _).mono ?_); rintro e w' ⟨rfl, rfl⟩)
            | (go_at_call 11; (with_reducible refine (H2.out _).mono ?_); rintro e w' ⟨rfl, rfl⟩))
          go_meet
          exact ⟨rfl, rfl⟩
  case rest =>
    obtain ⟨rfl, rfl⟩ := hcut
    clear HLD HSS HT
    have y0 := old1 (o := .cells #[.int .i64 k, .int .i64 a, .int .i64 n] 25) (old1 (o := .cells #[.int .i64 k, .int .i64 a, .int .i64 n] 25) (heap_alloc_new w (.cells #[.int .i64 r, .int .i64 c] 23)))
    have y1 := old1 (o := .cells #[.int .i64 k, .int .i64 a, .int .i64 n] 25) (heap_alloc_new (w.alloc (.cells #[.int .i64 r, .int .i64 c] 23)) (.cells #[.int .i64 k, .int .i64 a, .int .i64 n] 25))
    rw [show (w.alloc (.cells #[.int .i64 r, .int .i64 c] 23)).heap.size = w.heap.size + 1 by simp] at y1
    have HB0 := Lib.hid (belA (belA (belA (Below.refl w.heap.size w) (.cells #[.int .i64 r, .int .i64 c] 23)) (.cells #[.int .i64 k, .int .i64 a, .int .i64 n] 25)) (.cells #[.int .i64 k, .int .i64 a, .int .i64 n] 25))
    generalize ((w.alloc (.cells #[.int .i64 r, .int .i64 c] 23)).alloc (.cells #[.int .i64 k, .int .i64 a, .int .i64 n] 25)).alloc (.cells #[.int .i64 k, .int .i64 a, .int .i64 n] 25) = w2 at *
    generalize w.heap.size + 1 = Q at *
    have hS : (w2.cell? ⟨w.heap.size, 0, none⟩ = some (.int .i64 r) ∧ w2.cell? ⟨w.heap.size, 1, none⟩ = some (.int .i64 c) ∧ w2.cell? ⟨Q, 0, none⟩ = some (.int .i64 k) ∧ w2.cell? ⟨Q, 1, none⟩ = some (.int .i64 a) ∧ w2.cell? ⟨Q, 2, none⟩ = some (.int .i64 n)) ∧ (w.heap.size < w2.heap.size ∧ Q < w2.heap.size) ∧ Below w2.heap.size w2 w2 :=
      ⟨⟨cell_of_row _ _ 0 _ _ _ y0, cell_of_row _ _ 1 _ _ _ y0, cell_of_row _ _ 0 _ _ _ y1, cell_of_row _ _ 1 _ _ _ y1, cell_of_row _ _ 2 _ _ _ y1⟩, ⟨(Array.getElem?_eq_some_iff.1 y0).1, (Array.getElem?_eq_some_iff.1 y1).1⟩, Below.refl _ _⟩
    have hSd := five_step hS (Below.refl w2.heap.size w2).drew
    clear hS y0 y1
    go_wp2_with fail
    go_region_held3 (fun W => (W.cell? ⟨w.heap.size, 0, none⟩ = some (.int .i64 r) ∧ W.cell? ⟨w.heap.size, 1, none⟩ = some (.int .i64 c) ∧ W.cell? ⟨Q, 0, none⟩ = some (.int .i64 k) ∧ W.cell? ⟨Q, 1, none⟩ = some (.int .i64 a) ∧ W.cell? ⟨Q, 2, none⟩ = some (.int .i64 n)) ∧ (w.heap.size < W.heap.size ∧ Q < W.heap.size) ∧ Below w2.heap.size w2 W)
      (first | exact hSd | exact five_step hSd hbx | exact five_step (by assumption) hbx | assumption)
      (first
        | (go_at_call 12; (with_reducible refine (HM.out _).mono ?_); rintro e8 w8 ⟨rfl, hbx⟩)
        | (go_at_call 13; (with_reducible refine (HR.out _).mono ?_); rintro e8 w8 ⟨rfl, hbx⟩)
        | (go_at_call 14; (with_reducible refine (HS.out _).mono ?_); rintro e8 w8 ⟨rfl, hbx⟩)
        | (go_at_call 10; (with_reducible refine (HT2.out _).mono ?_); rintro e8 w8 ⟨rfl, hbx⟩)
        | (go_at_call 15; (with_reducible refine (HL.out _).mono ?_); rintro e8 w8 ⟨rfl, hbx⟩)
        | (go_at_call 16; (with_reducible refine (awake_any _).mono ?_); rintro e8 w8 ⟨rfl, hbx⟩))
    all_goals
      go_wp2
      go_ret
      exact ⟨rfl, bel0 HB0.out (five_below (by assumption))⟩
end Go.Proofs.Ytbloekdhafoniaa
