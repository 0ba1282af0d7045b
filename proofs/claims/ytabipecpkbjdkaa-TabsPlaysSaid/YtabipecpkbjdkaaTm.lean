/- The walk of the law TabsSteps. -/
import Derived.Test.YtabipecpkbjdkaaTi
namespace Go.Proofs.Ytabipecpkbjdkaa
open Go.RowKit

theorem posU_ge (l : List Bool) (m q : Nat) (hq : q ≤ l.length - 1) : q ≤ posU l m q := by
  unfold posU
  have := it_le (stU l) m (l.length - 1 - q)
  omega
theorem between (l : List Bool) : ∀ (d q : Nat), l.length - 1 - q = d → q ≤ l.length - 1 → ∀ y, q < y → y < posU l 1 q → l[y]?.getD false = false
  | 0, q, hd, hq, y, h1, h2 => by
    rw [show q = l.length - 1 by omega, posU_last] at h2
    omega
  | d + 1, q, hd, hq, y, h1, h2 => by
    cases hv : l[q + 1]?.getD false with
    | true =>
      rw [posU_yes l 0 q (by omega) hv, posU_0 _ _ (by omega)] at h2
      omega
    | false =>
      rw [posU_no l 1 q (by omega) hv (by omega)] at h2
      by_cases hy : y = q + 1
      · rw [hy]
        exact hv
      · exact between l d (q + 1) (by omega) (by omega) y (by omega) h2
theorem down_le (l : List Bool) (q : Nat) : ∀ e, (∀ y, q < y → y < q + e → l[y]?.getD false = false) → posD l 1 (q + e) ≤ q
  | 0, _ => posD_le l 1 q
  | e + 1, h => by
    by_cases he : e = 0
    · subst he
      show itN (stD l) 0 (nd (stD l) (q + 1)) ≤ q
      exact nd_lt _ q
    · rw [show q + (e + 1) = (q + e) + 1 by omega, posD_no l 1 (q + e) (h (q + e) (by omega) (by omega)) (by omega)]
      exact down_le l q e (fun y h1 h2 => h y h1 (by omega))
theorem back_le (l : List Bool) (q : Nat) (hq : q ≤ l.length - 1) : posD l 1 (posU l 1 q) ≤ q := by
  have h := posU_ge l 1 q hq
  obtain ⟨e, he⟩ : ∃ e, posU l 1 q = q + e := ⟨posU l 1 q - q, by omega⟩
  rw [he]
  exact down_le l q e (fun y h1 h2 => between l _ q rfl hq y h1 (by omega))
theorem clampZ_in (n q : Nat) (h : q ≤ n - 1) (h2 : 2 ≤ n) : clampZ n (q : Int) = q := by
  unfold clampZ
  omega

/-- What New leaves, of two columns and more. -/
theorem new_l (d : Nat) (hd : d ≤ 998) (l : List Bool) (hl : l = resL [] (2 + d)) (w : World) :
    Calls Try.prog 9 #[.int .i64 (2 + (d : Int))] w fun e w' => ∃ s b, e = .returned (.tuple #[.pointer (some ⟨s, 0, none⟩), .int .i64 0]) ∧ SS w' s b l ∧ w.heap.size ≤ s ∧ w.heap.size ≤ b ∧ Below w.heap.size w w' := by
  subst hl
  have := new_any (2 + d) w (by omega) (by omega)
  rw [show ((2 + d : Nat) : Int) = 2 + (d : Int) by omega] at this
  exact this

set_option maxHeartbeats 2000000 in
theorem tabsSteps_law (cols x n : Int) (hc0 : 0 ≤ cols) (hc1 : cols ≤ 65535) (hn0 : 0 ≤ n) (hn1 : n ≤ 255) (w : World) :
    Calls Try.prog 5 #[.int .u16 cols, .int .i64 x, .int .u8 n] w fun e w' => e = .returned (.bool true) ∧ Below w.heap.size w w' := by
  obtain ⟨d, hd⟩ : ∃ d : Nat, cols % 999 = d := ⟨(cols % 999).toNat, by omega⟩
  have hd9 : d ≤ 998 := by omega
  obtain ⟨M, hM⟩ : ∃ M : Nat, n % 40 = M := ⟨(n % 40).toNat, by omega⟩
  have hM9 : M ≤ 39 := by omega
  obtain ⟨l, hl⟩ : ∃ l, l = resL [] (2 + d) := ⟨_, rfl⟩
  have HLEN : Hid (l.length = 2 + d) := Lib.hid (by rw [hl, resL_len])
  have HNEW := Lib.hid (fun W => new_l d hd9 l hl W)
  obtain ⟨p, hp⟩ : ∃ p, clampZ l.length x = p := ⟨_, rfl⟩
  have hpl : p ≤ d + 1 := by
    have := clampZ_le l.length x (by rw [HLEN.out]; omega)
    rw [hp, HLEN.out] at this
    omega
  have HNX : Hid (∀ s b W, SS W s b l → ∀ m : Nat, m ≤ 40 → Calls Try.prog 21 #[.pointer (some ⟨s, 0, none⟩), .int .i64 x, .int .i64 m] W fun e w' => e = .returned (.int .i64 (posU l m p)) ∧ Below W.heap.size W w') := Lib.hid fun s b W h m hm => by
    have := next_any s b l x m W h (by omega)
    rw [hp, Int.toNat_natCast] at this
    exact this
  have HN0 : Hid (∀ s b W, SS W s b l → Calls Try.prog 21 #[.pointer (some ⟨s, 0, none⟩), .int .i64 x, .int .i64 0] W fun e w' => e = .returned (.int .i64 p) ∧ Below W.heap.size W w') := Lib.hid fun s b W h => by
    have := HNX.out s b W h 0 (by omega)
    rw [posU_0 l p (by rw [HLEN.out]; omega)] at this
    exact this
  have HN1 : Hid (∀ s b W, SS W s b l → ∀ q : Nat, q ≤ d + 1 → Calls Try.prog 21 #[.pointer (some ⟨s, 0, none⟩), .int .i64 q, .int .i64 1] W fun e w' => e = .returned (.int .i64 (posU l 1 q)) ∧ Below W.heap.size W w') := Lib.hid fun s b W h q hq => by
    have := next_any s b l q 1 W h (by omega)
    rw [clampZ_in _ q (by rw [HLEN.out]; omega) (by rw [HLEN.out]; omega)] at this
    exact this
  have HA1 : Hid (∀ s b W, SS W s b l → ∀ q : Nat, q ≤ d + 1 → Calls Try.prog 23 #[.pointer (some ⟨s, 0, none⟩), .int .i64 q, .int .i64 1] W fun e w' => e = .returned (.int .i64 (posD l 1 q)) ∧ Below W.heap.size W w') := Lib.hid fun s b W h q hq => by
    have := ahead_any s b l q 1 W h (by omega)
    rw [clampZ_in _ q (by rw [HLEN.out]; omega) (by rw [HLEN.out]; omega)] at this
    exact this
  have HCO : Hid (∀ s b W, SS W s b l → Calls Try.prog 17 #[.pointer (some ⟨s, 0, none⟩)] W fun e w' => e = .returned (.int .i64 (2 + (d : Int))) ∧ W = w') := Lib.hid fun s b W h => by
    have := cols_any s b _ W h
    rw [HLEN.out, show ((2 + d : Nat) : Int) = 2 + (d : Int) by omega] at this
    exact this
  clear hl hp
  go_enter Try.func5, Try.ntmps5
  go_wp2_with (first
    | (go_at_call 8; (with_reducible refine (awake_any _).mono ?_); rintro e w0 ⟨rfl, hb0⟩; have HB0 := Lib.hid hb0; clear hb0)
    | (go_at_call 9; (with_reducible refine (HNEW.out _).mono ?_); rintro e w1 ⟨s, b, rfl, hS, hs, hb, hB⟩; have HS1 := Lib.hid hS; have HB1 := Lib.hid (bel0 HB0.out hB); clear hS hs hb hB)
    | (go_at_call 21; (with_reducible refine (HN0.out s b _ HS1.out).mono ?_); rintro e w2 ⟨rfl, hb2⟩; have HB2 := Lib.hid (bel0 HB1.out hb2); have HS2 := Lib.hid (HS1.out.past hb2); clear hb2))
  go_loopw [9, 10] (fun xs ks wr => ∃ q k : Nat, xs = .int .i64 q ∧ ks = .int .i64 k ∧ k ≤ M ∧ q ≤ d + 1 ∧ Hid (q = posU l k p) ∧ Hid (Below w.heap.size w wr) ∧ Hid (SS wr s b l)) (fun _ ks _ => M - (intOf ks).toNat)
  case atStart => exact ⟨p, 0, rfl, rfl, Nat.zero_le _, hpl, Lib.hid (posU_0 l p (by rw [HLEN.out]; omega)).symm, HB2, HS2⟩
  case round =>
    obtain ⟨q, k, rfl, rfl, hk, hq, HQ, HB, HS⟩ := hrel
    by_cases hlt : k < M
    · have hki : (k : Int) < M := by omega
      have hge := posU_ge l 1 q (by rw [HLEN.out]; omega)
      have hle := posU_le l 1 q
      rw [HLEN.out] at hle
      have hbk := back_le l q (by rw [HLEN.out]; omega)
      have HQ1 : Hid (posU l 1 q = posU l (k + 1) p) := Lib.hid (by rw [HQ.out, ← posU_snoc])
      have hN := Lib.hid (HN1.out s b wr HS.out q hq)
      obtain ⟨y, hy⟩ : ∃ y, posU l 1 q = y := ⟨_, rfl⟩
      rw [hy] at hge hle hbk hN HQ1
      have hyd : y ≤ d + 1 := by omega
      obtain ⟨z, hz⟩ : ∃ z, posD l 1 y = z := ⟨_, rfl⟩
      have hA : Hid (∀ W, SS W s b l → Calls Try.prog 23 #[.pointer (some ⟨s, 0, none⟩), .int .i64 y, .int .i64 1] W fun e w' => e = .returned (.int .i64 z) ∧ Below W.heap.size W w') := Lib.hid fun W h => by
        have := HA1.out s b W h y hyd
        rw [hz] at this
        exact this
      rw [hz] at hbk
      have hd1 : decide (y < q) = false := decide_eq_false (by omega)
      have hd2 : decide (q < z) = false := decide_eq_false (by omega)
      clear hy hz hge hbk hle HQ
      go_wp2_with (first
        | (go_at_call 21; (with_reducible refine hN.out.mono ?_); rintro e w3 ⟨rfl, hb3⟩; have HB3 := Lib.hid (bel0 HB.out hb3); have HS3 := Lib.hid (HS.out.past hb3); clear hb3)
        | (go_at_call 23; (with_reducible refine (hA.out _ HS3.out).mono ?_); rintro e w4 ⟨rfl, hb4⟩; have HB4 := Lib.hid (bel0 HB3.out hb4); have HS4 := Lib.hid (HS3.out.past hb4); clear hb4))
      go_roundw
      case rel => exact ⟨y, k + 1, rfl, by go_num, hlt, hyd, HQ1, HB4, HS4⟩
      case measure => simp [intOf]; omega
    · obtain rfl : k = M := by omega
      have hN := Lib.hid (HNX.out s b wr HS.out k (by omega))
      rw [← HQ.out] at hN
      clear HQ
      go_wp2_with (first
        | (go_at_call 21; (with_reducible refine hN.out.mono ?_); rintro e w3 ⟨rfl, hb3⟩; have HB3 := Lib.hid (bel0 HB.out hb3); have HS3 := Lib.hid (HS.out.past hb3); clear hb3)
        | (go_at_call 17; (with_reducible refine (HCO.out s b _ HS3.out).mono ?_); rintro e w' ⟨rfl, rfl⟩))
      go_ret
      refine ⟨?_, HB3.out⟩
      have : decide ((q : Int) < 2 + (d : Int)) = true := decide_eq_true (by omega)
      simp [this]

end Go.Proofs.Ytabipecpkbjdkaa
