/- The law ShiftRows. -/
import Derived.Test.YtbloekdhafoniaaEx
namespace Go.Proofs.Ytbloekdhafoniaa
open Go.RowKit

theorem belN (w : World) (n : Nat) : Below w.heap.size w (w.drewN n) := ⟨rfl, rfl, rfl, Nat.le_refl _, fun _ _ => rfl⟩
theorem row_step {wr W W' : World} {b g o : Nat} {v1 v2 v3 v4 : Value} (hh : (W.cell? ⟨b, o, none⟩ = some v1 ∧ W.cell? ⟨g, 0, none⟩ = some v2 ∧ W.cell? ⟨g, 1, none⟩ = some v3 ∧ W.cell? ⟨g, 2, none⟩ = some v4) ∧ (b < W.heap.size ∧ g < W.heap.size) ∧ Below wr.heap.size wr W) (hb : Below W.heap.size W W') : (W'.cell? ⟨b, o, none⟩ = some v1 ∧ W'.cell? ⟨g, 0, none⟩ = some v2 ∧ W'.cell? ⟨g, 1, none⟩ = some v3 ∧ W'.cell? ⟨g, 2, none⟩ = some v4) ∧ (b < W'.heap.size ∧ g < W'.heap.size) ∧ Below wr.heap.size wr W' := by
  obtain ⟨⟨e1, e2, e3, e4⟩, ⟨i1, i2⟩, hB⟩ := hh
  have hs := hb.size
  exact ⟨⟨(hb.cell (p := ⟨b, o, none⟩) i1).trans e1, (hb.cell (p := ⟨g, 0, none⟩) i2).trans e2, (hb.cell (p := ⟨g, 1, none⟩) i2).trans e3, (hb.cell (p := ⟨g, 2, none⟩) i2).trans e4⟩, ⟨by omega, by omega⟩, bel0 hB hb⟩
theorem row_below {wr W : World} {b g o : Nat} {v1 v2 v3 v4 : Value} (hh : (W.cell? ⟨b, o, none⟩ = some v1 ∧ W.cell? ⟨g, 0, none⟩ = some v2 ∧ W.cell? ⟨g, 1, none⟩ = some v3 ∧ W.cell? ⟨g, 2, none⟩ = some v4) ∧ (b < W.heap.size ∧ g < W.heap.size) ∧ Below wr.heap.size wr W) : Below wr.heap.size wr W := hh.2.2

set_option maxRecDepth 100000 in
set_option maxHeartbeats 4000000 in
theorem shiftRows_law (n k a m c : Int) (hn0 : 0 ≤ n) (hn1 : n ≤ 255) (hc0 : 0 ≤ c) (hc1 : c ≤ 255) (w : World) :
    Calls Try.prog 4 #[.int .u8 n, .agg #[.int .i64 k, .int .i64 a, .int .i64 m], .int .u8 c] w fun e w' => e = .returned (.bool true) ∧ Below w.heap.size w w' := by
  by_cases g0 : 60 < n
  · go_enter Try.func4, Try.ntmps4
    go_wp2_with (go_at_call 16; (with_reducible refine (awake_any _).mono ?_); rintro e w0 ⟨rfl, hb0⟩; have HB0 := Lib.hid hb0; clear hb0)
    go_ret
    exact ⟨rfl, bel1 (Below.refl _ _) HB0.out⟩
  replace g0 : decide (60 < n) = false := decide_eq_false g0
  by_cases g1 : a < 0
  · go_enter Try.func4, Try.ntmps4
    go_wp2_with (go_at_call 16; (with_reducible refine (awake_any _).mono ?_); rintro e w0 ⟨rfl, hb0⟩; have HB0 := Lib.hid hb0; clear hb0)
    go_ret
    exact ⟨rfl, bel1 (Below.refl _ _) HB0.out⟩
  replace g1 : decide (a < 0) = false := decide_eq_false g1
  by_cases g2 : 60 < a
  · go_enter Try.func4, Try.ntmps4
    go_wp2_with (go_at_call 16; (with_reducible refine (awake_any _).mono ?_); rintro e w0 ⟨rfl, hb0⟩; have HB0 := Lib.hid hb0; clear hb0)
    go_ret
    exact ⟨rfl, bel1 (Below.refl _ _) HB0.out⟩
  replace g2 : decide (60 < a) = false := decide_eq_false g2
  by_cases g3 : m < 1
  · go_enter Try.func4, Try.ntmps4
    go_wp2_with (go_at_call 16; (with_reducible refine (awake_any _).mono ?_); rintro e w0 ⟨rfl, hb0⟩; have HB0 := Lib.hid hb0; clear hb0)
    go_ret
    exact ⟨rfl, bel1 (Below.refl _ _) HB0.out⟩
  replace g3 : decide (m < 1) = false := decide_eq_false g3
  by_cases g4 : 60 < m
  · go_enter Try.func4, Try.ntmps4
    go_wp2_with (go_at_call 16; (with_reducible refine (awake_any _).mono ?_); rintro e w0 ⟨rfl, hb0⟩; have HB0 := Lib.hid hb0; clear hb0)
    go_ret
    exact ⟨rfl, bel1 (Below.refl _ _) HB0.out⟩
  replace g4 : decide (60 < m) = false := decide_eq_false g4
  by_cases g5 : k < 0
  · go_enter Try.func4, Try.ntmps4
    go_wp2_with (go_at_call 16; (with_reducible refine (awake_any _).mono ?_); rintro e w0 ⟨rfl, hb0⟩; have HB0 := Lib.hid hb0; clear hb0)
    go_ret
    exact ⟨rfl, bel1 (Below.refl _ _) HB0.out⟩
  replace g5 : decide (k < 0) = false := decide_eq_false g5
  by_cases g6 : 2 < k
  · go_enter Try.func4, Try.ntmps4
    go_wp2_with (go_at_call 16; (with_reducible refine (awake_any _).mono ?_); rintro e w0 ⟨rfl, hb0⟩; have HB0 := Lib.hid hb0; clear hb0)
    go_ret
    exact ⟨rfl, bel1 (Below.refl _ _) HB0.out⟩
  replace g6 : decide (2 < k) = false := decide_eq_false g6
  obtain ⟨nn, rfl⟩ := Int.eq_ofNat_of_zero_le hn0
  have e0 := of_decide_eq_false g0
  have e1 := of_decide_eq_false g1
  have e2 := of_decide_eq_false g2
  have e3 := of_decide_eq_false g3
  have e4 := of_decide_eq_false g4
  have e5 := of_decide_eq_false g5
  have e6 := of_decide_eq_false g6
  have hnn : nn ≤ 60 := by omega
  have HRO := Lib.hid (fun W => refRows_any nn hnn k a m ⟨by omega, by omega⟩ ⟨by omega, by omega⟩ ⟨by omega, by omega⟩ W)
  have HF := Lib.hid (rk_found nn (by omega) c k a m ⟨hc0, hc1⟩ ⟨by omega, by omega⟩ ⟨by omega, by omega⟩ ⟨by omega, by omega⟩ (nn + 1) (Nat.le_refl _))
  have hLl := rk_le nn k a m (by omega) (nn + 1)
  have HM := Lib.hid (fun v => move_any v c k a m)
  have hw : IntKind.i64.wrap c = c := by rw [IntKind.wrap_i64]; omega
  have hw2 : IntKind.i64.wrap (nn : Int) = nn := by rw [IntKind.wrap_i64]; omega
  have hg := guardPos
  generalize rk nn k a m (nn + 1) = L at *
  have hLb : L.length ≤ 4000 := by omega
  clear hLl e0 e1 e2 e3 e4 e5 e6 hnn
  unfold IntsPost at HRO
  go_enter Try.func4, Try.ntmps4
  go_wp2_with (go_at_call 17; (with_reducible refine (HRO.out _).mono ?_); rintro e w1 ⟨v, rfl, hown, hb⟩; obtain ⟨A, cp, rfl, _⟩ := own_form hown; have HRI := Lib.hid (RI.of_own hown); have HS1 : Hid (SB w1 w.heap.size k a m) := Lib.hid ((SB.new w k a m).past hb); have HB1 := Lib.hid (bel1 (Below.refl _ _) hb); clear hown hb)
  go_loopw [8] (fun q wr => ∃ i : Nat, q = .int .i64 i ∧ i ≤ L.length ∧ Hid (Below w1.heap.size w1 wr)) (fun q _ => L.length - (intOf q).toNat)
  case atStart => exact ⟨0, rfl, Nat.zero_le _, Lib.hid (Below.refl _ _)⟩
  case round =>
    obtain ⟨i, rfl, hi, HB⟩ := hrel
    by_cases hlt : i < L.length
    · have hlti : (i : Int) < L.length := by omega
      obtain ⟨b, off, rfl, hbl, hcx⟩ := (HRI.out.past HB.out) (fun e => by rw [e] at hlt; simp at hlt)
      have hc := hcx i hlt
      obtain ⟨v, hv⟩ : ∃ v, L[i]?.getD 0 = v := ⟨_, rfl⟩
      have hv2 : L[i]? = some v := by rw [List.getElem?_eq_getElem hlt] at hv ⊢; simpa using hv
      rw [hv] at hc
      have HV : Hid (0 ≤ v → moveZ v c k a m = ((i : Int), c)) := Lib.hid (HF.out i v hv2)
      have hSS := HS1.out.past HB.out
      have hS : (wr.cell? ⟨b, off + i, none⟩ = some (.int .i64 v) ∧ wr.cell? ⟨w.heap.size, 0, none⟩ = some (.int .i64 k) ∧ wr.cell? ⟨w.heap.size, 1, none⟩ = some (.int .i64 a) ∧ wr.cell? ⟨w.heap.size, 2, none⟩ = some (.int .i64 m)) ∧ (b < wr.heap.size ∧ w.heap.size < wr.heap.size) ∧ Below wr.heap.size wr wr := ⟨⟨hc, hSS.c0, hSS.c1, hSS.c2⟩, ⟨hbl, hSS.lt⟩, Below.refl _ _⟩
      clear hv hv2 hcx hSS hc hbl
      by_cases hv0 : 0 ≤ v
      · have HMV : Hid (∀ W, Calls Try.prog 12 #[.agg #[.int .i64 v, .int .i64 c], .agg #[.int .i64 k, .int .i64 a, .int .i64 m]] W fun e w' => e = .returned (.agg #[.int .i64 i, .int .i64 c]) ∧ Below W.heap.size W w') := Lib.hid fun W => by
          have h := HM.out v W
          rw [HV.out hv0] at h
          exact h
        have E1 := fun W => eqPos_self W i c
        have hSd := row_step hS (Below.refl wr.heap.size wr).drew
        clear hS HV HM HF HRO
        have hd : decide (0 ≤ v) = true := decide_eq_true hv0
        go_wp2
        go_region_held3 (fun W => (W.cell? ⟨b, off + i, none⟩ = some (.int .i64 v) ∧ W.cell? ⟨w.heap.size, 0, none⟩ = some (.int .i64 k) ∧ W.cell? ⟨w.heap.size, 1, none⟩ = some (.int .i64 a) ∧ W.cell? ⟨w.heap.size, 2, none⟩ = some (.int .i64 m)) ∧ (b < W.heap.size ∧ w.heap.size < W.heap.size) ∧ Below wr.heap.size wr W)
          (first | exact hSd | exact row_step hSd hbx | exact row_step (by assumption) hbx | assumption)
          (first
            | (go_at_call 12; (with_reducible refine (HMV.out _).mono ?_); rintro e8 w8 ⟨rfl, hbx⟩))
        all_goals
          have HBn := Lib.hid (bel0 HB.out (row_below (by assumption)))
          go_wp2
          go_roundw
          case rel => exact ⟨i + 1, by go_num, hlt, HBn⟩
          case measure => simp [intOf]; omega
      · have hd : decide (0 ≤ v) = false := decide_eq_false hv0
        obtain ⟨⟨x0, x1, x2, x3⟩, ⟨l0, l1⟩, _⟩ := hS
        clear HV HM HF HRO hv0
        go_wp2
        refine wp_region_quiet_lit (by kernel_rfl) (by kernel_rfl) ?_
        repeat (any_goals (first | go_big_quiet_step (fail) | quiet_step (fail)))
        refine wpQuiet_nil ?_
        intro _ hw'
        obtain ⟨nq, hw''⟩ := hw'
        subst hw''
        have HBn := Lib.hid (bel0 HB.out (belN wr nq))
        go_wp2
        go_roundw
        case rel => exact ⟨i + 1, by go_num, hlt, HBn⟩
        case measure => simp [intOf]; omega
    · clear HF HM HRO
      go_wp2_with (go_at_call 16; (with_reducible refine (awake_any _).mono ?_); rintro e w0 ⟨rfl, hb0⟩; have HB0 := Lib.hid (bel0 (bel0 HB1.out HB.out) hb0); clear hb0)
      go_ret
      exact ⟨rfl, HB0.out⟩
end Go.Proofs.Ytbloekdhafoniaa
