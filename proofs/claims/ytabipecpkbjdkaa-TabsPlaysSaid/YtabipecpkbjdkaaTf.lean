/- Stops of the tabulator: Ahead's walk; Next, Ahead; of stops that aren't there. -/
import Derived.Test.YtabipecpkbjdkaaTe
import Derived.LoopN
namespace Go.Proofs.Ytabipecpkbjdkaa
open Go.RowKit

set_option maxHeartbeats 1000000 in
theorem walkD_any (s b : Nat) (l : List Bool) (x m : Int) (w : World) (h : SS w s b l) (hm : m ≤ 9223372036854775807) :
    Calls Try.prog 26 #[.pointer (some ⟨s, 0, none⟩), .int .i64 x, .int .i64 m, .func (.func 28) #[] #[]] w fun e w' => e = .returned (.int .i64 (posD l m.toNat (clampZ l.length x))) ∧ Below w.heap.size w w' := by
  have hcl := clampZ_of l.length x
  have hp := clampZ_le l.length x h.lo
  obtain ⟨p, hpe⟩ : ∃ p, clampZ l.length x = p := ⟨_, rfl⟩
  rw [hpe] at hcl hp ⊢
  clear hpe
  have HCL := Lib.hid hcl
  clear hcl
  have HC : Hid (Calls Try.prog 17 #[.pointer (some ⟨s, 0, none⟩)] w fun e w' => e = .returned (.int .i64 l.length) ∧ w = w') := Lib.hid (cols_any s b l w h)
  have HS := Lib.hid h
  have hlo := h.lo
  have hhi := h.hi
  clear h
  go_enter Try.func26, Try.ntmps26
  go_upto_region 1 with fail
  go_cut [1] (fun s1 wx => s1 = .int .i64 p ∧ w = wx)
  case first =>
    go_wp2_with (go_at_call 17; (with_reducible refine HC.out.mono ?_); rintro e w' ⟨rfl, rfl⟩)
    all_goals
      go_meet
      exact ⟨by congr 1; have := HCL.out; omega, rfl⟩
  case rest =>
    obtain ⟨rfl, rfl⟩ := hcut
    go_wp2
    go_loopw [1, 2] (fun xs ms wr => ∃ (q : Nat) (mz : Int), xs = .int .i64 q ∧ ms = .int .i64 mz ∧ q ≤ l.length - 1 ∧ mz ≤ 9223372036854775807 ∧ Hid (posD l mz.toNat q = posD l m.toNat p) ∧ Hid (Below w.heap.size w wr)) (fun xs _ _ => (intOf xs).toNat)
    case atStart => exact ⟨p, m, rfl, rfl, hp, hm, Lib.hid rfl, Lib.hid (Below.refl _ _)⟩
    case round =>
      obtain ⟨q, mz, rfl, rfl, hq, hmz, HP, HB⟩ := hrel
      by_cases h0 : 0 < mz
      · have HX : Hid (∀ W, Below wr.heap.size wr W → SS W s b l) := Lib.hid fun W hW => (HS.out.past HB.out).past hW
        have HN1 := Lib.hid (ahead1_any (q : Int) wr (by omega) (by omega))
        by_cases hlt : 0 < q
        · obtain ⟨r, hr⟩ : ∃ r, q = r + 1 := ⟨q - 1, by omega⟩
          have HR := Lib.hid hr
          have hli : decide (0 < (q : Int)) = true := decide_eq_true (by omega)
          have hqi : (r : Int) < (l.length : Int) := by omega
          have HL := Lib.hid (show r < l.length by omega)
          rw [hli, show ((q : Int) - 1) = (r : Int) by omega] at HN1
          have hrl : r < q := by omega
          have hrq : r ≤ l.length - 1 := by omega
          clear hr
          obtain ⟨v, hv⟩ : ∃ v, l[r]?.getD false = v := ⟨_, rfl⟩
          have HV := Lib.hid hv
          clear hv
          cases v with
          | true =>
            have HQ : Hid (posD l (mz - 1).toNat r = posD l m.toNat p) := Lib.hid (by
              rw [← HP.out, show mz.toNat = (mz - 1).toNat + 1 by omega]
              rw [HR.out]
              exact (posD_yes l _ r HV.out).symm)
            go_wp2_with (go_at_call 28; (with_reducible refine HN1.out.mono ?_); rintro e w3 ⟨rfl, hb3⟩; have hc0 := (HX.out w3 hb3).c0; have hcx := (HX.out w3 hb3).cx r HL.out; rw [HV.out] at hcx; have HB3 := Lib.hid (bel0 HB.out hb3); clear hb3)
            go_roundw
            case rel => exact ⟨r, mz - 1, rfl, rfl, hrq, by omega, HQ, HB3⟩
            case measure => simp [intOf]; omega
          | false =>
            have HQ : Hid (posD l mz.toNat r = posD l m.toNat p) := Lib.hid (by
              rw [← HP.out]
              rw [HR.out]
              exact (posD_no l _ r HV.out (by omega)).symm)
            go_wp2_with (go_at_call 28; (with_reducible refine HN1.out.mono ?_); rintro e w3 ⟨rfl, hb3⟩; have hc0 := (HX.out w3 hb3).c0; have hcx := (HX.out w3 hb3).cx r HL.out; rw [HV.out] at hcx; have HB3 := Lib.hid (bel0 HB.out hb3); clear hb3)
            go_roundw
            case rel => exact ⟨r, mz, rfl, rfl, hrq, hmz, HQ, HB3⟩
            case measure => simp [intOf]; omega
        · have HE : Hid (posD l m.toNat p = q) := Lib.hid (by rw [← HP.out, show q = 0 by omega, posD_last])
          have hli : decide (0 < (q : Int)) = false := decide_eq_false (by omega)
          rw [hli] at HN1
          go_wp2_with (go_at_call 28; (with_reducible refine HN1.out.mono ?_); rintro e w3 ⟨rfl, hb3⟩; have HB3 := Lib.hid (bel0 HB.out hb3); clear hb3)
          go_ret
          exact ⟨by rw [HE.out]; rfl, HB3.out⟩
      · have HE : Hid (posD l m.toNat p = q) := Lib.hid (by rw [← HP.out, show mz.toNat = 0 by omega]; rfl)
        go_wp2
        go_ret
        exact ⟨by rw [HE.out]; rfl, HB.out⟩

theorem next_any (s b : Nat) (l : List Bool) (x m : Int) (w : World) (h : SS w s b l) (hm : m ≤ 9223372036854775807) :
    Calls Try.prog 21 #[.pointer (some ⟨s, 0, none⟩), .int .i64 x, .int .i64 m] w fun e w' => e = .returned (.int .i64 (posU l m.toNat (clampZ l.length x))) ∧ Below w.heap.size w w' := by
  have HC : Hid (Calls Try.prog 17 #[.pointer (some ⟨s, 0, none⟩)] w fun e w' => e = .returned (.int .i64 l.length) ∧ w = w') := Lib.hid (cols_any s b l w h)
  have HW := Lib.hid (walkU_any s b w.heap.size l x m (w.alloc (.cells #[.int .i64 ((l.length : Int) - 1)] 3)) (h.past ((Below.refl _ _).alloc (Nat.le_refl _) _)) hm (by simp))
  have hlo := h.lo
  have hhi := h.hi
  clear h
  go_enter Try.func21, Try.ntmps21
  go_wp2_with (first
    | (go_at_call 17; (with_reducible refine HC.out.mono ?_); rintro e w' ⟨rfl, rfl⟩)
    | (go_at_call 26; (with_reducible refine HW.out.mono ?_); rintro e w2 ⟨rfl, hb2⟩; have HB2 := Lib.hid (bel1 (Below.refl _ w) hb2); clear hb2))
  go_ret
  exact ⟨rfl, HB2.out⟩
theorem ahead_any (s b : Nat) (l : List Bool) (x m : Int) (w : World) (h : SS w s b l) (hm : m ≤ 9223372036854775807) :
    Calls Try.prog 23 #[.pointer (some ⟨s, 0, none⟩), .int .i64 x, .int .i64 m] w fun e w' => e = .returned (.int .i64 (posD l m.toNat (clampZ l.length x))) ∧ Below w.heap.size w w' := by
  have HW := Lib.hid (walkD_any s b l x m w h hm)
  clear h
  go_enter Try.func23, Try.ntmps23
  go_wp2_with (go_at_call 26; (with_reducible refine HW.out.mono ?_); rintro e w2 ⟨rfl, hb2⟩)
  go_ret
  exact ⟨rfl, hb2⟩

theorem next_nil (x m : Int) (w : World) :
    Calls Try.prog 21 #[.pointer none, .int .i64 x, .int .i64 m] w fun e w' => e = .returned (.int .i64 0) ∧ Below w.heap.size w w' := by
  have HN1 : Hid (Calls Try.prog 27 #[.int .i64 0, .pointer (some ⟨w.heap.size, 0, none⟩)] (w.alloc (.cells #[.int .i64 (-1)] 3)) fun e w' => e = .returned (.tuple #[.int .i64 1, .bool false]) ∧ Below (w.alloc (.cells #[.int .i64 (-1)] 3)).heap.size (w.alloc (.cells #[.int .i64 (-1)] 3)) w') :=
    Lib.hid (next1_any 0 (-1) w.heap.size _ (by simp) (by omega) (by omega))
  have HW : Hid (Calls Try.prog 26 #[.pointer none, .int .i64 x, .int .i64 m, .func (.func 27) #[] #[.pointer (some ⟨w.heap.size, 0, none⟩)]] (w.alloc (.cells #[.int .i64 (-1)] 3)) fun e w' => e = .returned (.int .i64 0) ∧ Below (w.alloc (.cells #[.int .i64 (-1)] 3)).heap.size (w.alloc (.cells #[.int .i64 (-1)] 3)) w') := Lib.hid (by
    go_enter Try.func26, Try.ntmps26
    go_upto_region 1 with fail
    go_cut [1] (fun s1 wx => s1 = .int .i64 0 ∧ (w.alloc (.cells #[.int .i64 (-1)] 3)) = wx)
    case first =>
      go_wp2_with (go_at_call 17; (with_reducible refine (cols_nil _).mono ?_); rintro e w' ⟨rfl, rfl⟩)
      all_goals
        go_meet
        exact ⟨by congr 1; try omega, rfl⟩
    case rest =>
      obtain ⟨rfl, rfl⟩ := hcut
      go_wp2
      refine wp_loop_rounds 1 ?_
      rw [rounds_succ]
      by_cases h0 : 0 < m
      · go_wp2_with (go_at_call 27; (with_reducible refine HN1.out.mono ?_); rintro e w3 ⟨rfl, hb3⟩)
        go_ret
        exact ⟨rfl, hb3⟩
      · go_wp2
        go_ret
        exact ⟨rfl, Below.refl _ _⟩)
  clear HN1
  go_enter Try.func21, Try.ntmps21
  go_wp2_with (first
    | (go_at_call 17; (with_reducible refine (cols_nil _).mono ?_); rintro e w' ⟨rfl, rfl⟩)
    | (go_at_call 26; (with_reducible refine HW.out.mono ?_); rintro e w2 ⟨rfl, hb2⟩; have HB2 := Lib.hid (bel1 (Below.refl _ w) hb2); clear hb2))
  go_ret
  exact ⟨rfl, HB2.out⟩
theorem ahead_nil (x m : Int) (w : World) :
    Calls Try.prog 23 #[.pointer none, .int .i64 x, .int .i64 m] w fun e w' => e = .returned (.int .i64 0) ∧ Below w.heap.size w w' := by
  have HW : Hid (Calls Try.prog 26 #[.pointer none, .int .i64 x, .int .i64 m, .func (.func 28) #[] #[]] w fun e w' => e = .returned (.int .i64 0) ∧ Below w.heap.size w w') := Lib.hid (by
    have HN1 := Lib.hid (ahead1_any 0 w (by omega) (by omega))
    go_enter Try.func26, Try.ntmps26
    go_upto_region 1 with fail
    go_cut [1] (fun s1 wx => s1 = .int .i64 0 ∧ w = wx)
    case first =>
      go_wp2_with (go_at_call 17; (with_reducible refine (cols_nil _).mono ?_); rintro e w' ⟨rfl, rfl⟩)
      all_goals
        go_meet
        exact ⟨by congr 1; try omega, rfl⟩
    case rest =>
      obtain ⟨rfl, rfl⟩ := hcut
      go_wp2
      refine wp_loop_rounds 1 ?_
      rw [rounds_succ]
      by_cases h0 : 0 < m
      · go_wp2_with (go_at_call 28; (with_reducible refine HN1.out.mono ?_); rintro e w3 ⟨rfl, hb3⟩)
        go_ret
        exact ⟨rfl, hb3⟩
      · go_wp2
        go_ret
        exact ⟨rfl, Below.refl _ _⟩)
  go_enter Try.func23, Try.ntmps23
  go_wp2_with (go_at_call 26; (with_reducible refine HW.out.mono ?_); rintro e w2 ⟨rfl, hb2⟩)
  go_ret
  exact ⟨rfl, hb2⟩

end Go.Proofs.Ytabipecpkbjdkaa
