/- The law of RingWraps. -/
import Derived.Test.YtfablhfjjlmdgaaNn
namespace Go.Proofs.Ytfablhfjjlmdgaa
open Go.RowKit

/-- The rows that are held when k rows have been pushed. -/
def LW (room k : Nat) : List (Int × Bool) := (List.range' (k - min k room) (min k room)).map fun (j : Nat) => rowZ j
theorem LW_len (room k : Nat) : (LW room k).length = min k room := by simp [LW]
theorem LW_push (room k : Nat) : pushL room (LW room k) (rowZ k) = LW room (k + 1) := by
  unfold pushL
  rw [LW_len]
  by_cases h : k < room
  · rw [if_pos (by omega)]
    unfold LW
    rw [show min k room = k from by omega, show min (k + 1) room = k + 1 from by omega, Nat.sub_self, Nat.sub_self, List.range'_1_concat, List.map_append]
    simp
  · rw [if_neg (by omega)]
    unfold LW
    rw [show min k room = room from by omega, show min (k + 1) room = room from by omega]
    have e : (List.range' (k - room) room).map (fun (j : Nat) => rowZ j) ++ [rowZ k] = (List.range' (k - room) (room + 1)).map fun (j : Nat) => rowZ j := by
      rw [List.range'_1_concat, List.map_append, show k - room + room = k from by omega]
      rfl
    rw [e, List.range'_succ, List.map_cons, List.tail_cons, show k + 1 - room = k - room + 1 from by omega]
theorem LW_out (room k : Nat) (h : room ≤ k) : pushO room (LW room k) (rowZ k) = some (rowZ ((k - room : Nat) : Int)) := by
  unfold pushO
  rw [LW_len, if_neg (by omega)]
  unfold LW
  rw [show min k room = room from by omega]
  have e : (List.range' (k - room) room).map (fun (j : Nat) => rowZ j) ++ [rowZ k] = (List.range' (k - room) (room + 1)).map fun (j : Nat) => rowZ j := by
    rw [List.range'_1_concat, List.map_append, show k - room + room = k from by omega]
    rfl
  rw [e, List.range'_succ, List.map_cons]
  rfl
theorem LW_none (room k : Nat) (h : k < room) : pushO room (LW room k) (rowZ k) = none := by
  unfold pushO
  rw [LW_len, if_pos (by omega)]
theorem LW_ok (room k : Nat) : okZ room (LW room k) = decide (room ≤ k) := by
  unfold okZ
  rw [LW_len]
  by_cases h : room ≤ k
  · simp [h]
  · simp [h]; omega
theorem LW_gone (room k : Nat) (hk : k ≤ 100000) : pushG room ((k - min k room : Nat) : Int) (LW room k) = ((k + 1 - min (k + 1) room : Nat) : Int) := by
  unfold pushG
  rw [LW_len]
  by_cases h : k < room
  · rw [if_pos (by omega)]
    omega
  · rw [if_neg (by omega), IntWalk.u64_in _ (by omega)]
    omega
theorem LW_at (room k i : Nat) (hi : i < min k room) : (LW room k)[i]?.getD (0, false) = rowZ ((k - min k room + i : Nat) : Int) := by
  unfold LW
  rw [List.getElem?_map, List.getElem?_range' hi]
  simp

set_option maxRecDepth 100000 in
set_option maxHeartbeats 8000000 in
theorem ringWraps_law (x y : Int) (hx0 : 0 ≤ x) (hy0 : 0 ≤ y) (w : World) : Calls Try.prog 7 #[.int .u8 x, .int .u16 y] w fun e w' => e = .returned (.bool true) ∧ Below w.heap.size w w' := by
  obtain ⟨rm, hrm, hrm40⟩ : ∃ rm : Nat, x.tmod 40 = rm ∧ rm < 40 := by
    have h1 := Int.tmod_nonneg 40 hx0
    have h2 := Int.tmod_lt_of_pos x (show (0 : Int) < 40 by decide)
    exact ⟨(x.tmod 40).toNat, by omega, by omega⟩
  obtain ⟨n, hn, hn300⟩ : ∃ n : Nat, y.tmod 300 = n ∧ n < 300 := by
    have h1 := Int.tmod_nonneg 300 hy0
    have h2 := Int.tmod_lt_of_pos y (show (0 : Int) < 300 by decide)
    exact ⟨(y.tmod 300).toNat, by omega, by omega⟩
  have hw1 : IntKind.i64.wrap (rm : Int) = rm := IntWalk.i64_in _ (by omega)
  have hw2 : IntKind.i64.wrap (n : Int) = n := IntWalk.i64_in _ (by omega)
  have HAW := Lib.hid (awake_any w)
  have HNEW := Lib.hid (fun W => new_q rm (by omega) W)
  go_enter Try.func7, Try.ntmps7
  go_wp2_with (first
    | (go_at_call 8; go_must (with_reducible refine HAW.out.mono ?_; rintro e1 w1 ⟨rfl, hb1⟩; have HB1 := Lib.hid hb1; clear hb1 HAW))
    | (go_at_call 9; go_must (with_reducible refine (HNEW.out _).mono ?_; rintro e2 w2 ⟨rfl, hq2⟩; have HQ2 := Lib.hid hq2; clear hq2 HNEW)))
  generalize hD : w1.heap.size = D at *
  go_loopw [8, 9] (fun gv i wr => ∃ k M : Nat, k ≤ n ∧ gv = .int .i64 ((k - min k rm : Nat) : Int) ∧ i = .int .i64 k ∧ Hid (RQ w1 wr D rm ((k - min k rm : Nat) : Int) (LW rm k) M)) (fun _ i _ => n - (intOf i).toNat)
  case atStart => exact ⟨0, _, Nat.zero_le _, by simp, rfl, Lib.hid (by have := HQ2.out; simpa [LW] using this)⟩
  case round =>
    obtain ⟨k, M, hk, rfl, rfl, HQ⟩ := hrel
    have hm40 : rm ≤ 1000000 := by omega
    by_cases hlt : k < n
    · have hlti : (k : Int) < n := by omega
      have HROW : Hid (∀ W, Calls Try.prog 17 #[.int .i64 k] W fun e w' => ∃ g c, e = .returned (.agg #[.slice (some ⟨g, 0, none⟩) 1 c, .bool (rowZ k).2]) ∧ Below W.heap.size W w' ∧ RV (fun _ => True) w' (.slice (some ⟨g, 0, none⟩) 1 c) (.bool (rowZ k).2) (rowZ k)) := Lib.hid fun W => row_q k (by omega) W
      have HPL := Lib.hid (LW_push rm k)
      have HPG := Lib.hid (LW_gone rm k (by omega))
      have hll : (LW rm k).length ≤ 1000000 := by rw [LW_len]; omega
      have HLL := Lib.hid hll
      clear hll
      by_cases hok : rm ≤ k
      · have HOK : Hid (okZ rm (LW rm k) = true) := Lib.hid (by rw [LW_ok]; simp [hok])
        have HOUT : Hid (pushO rm (LW rm k) (rowZ k) = some (rowZ ((k - min k rm : Nat) : Int))) := Lib.hid (by rw [LW_out rm k hok, show k - rm = k - min k rm from by omega])
        have HROJ : Hid (∀ W, Calls Try.prog 17 #[.int .i64 ((k - min k rm : Nat) : Int)] W fun e w' => ∃ g c, e = .returned (.agg #[.slice (some ⟨g, 0, none⟩) 1 c, .bool (rowZ ((k - min k rm : Nat) : Int)).2]) ∧ Below W.heap.size W w' ∧ RV (fun _ => True) w' (.slice (some ⟨g, 0, none⟩) 1 c) (.bool (rowZ ((k - min k rm : Nat) : Int)).2) (rowZ ((k - min k rm : Nat) : Int))) := Lib.hid fun W => row_q _ (by omega) W
        have hg1 : IntKind.i64.wrap (((k - min k rm : Nat) : Int) + 1) = ((k + 1 - min (k + 1) rm : Nat) : Int) := by rw [IntWalk.i64_in _ (by omega)]; omega
        clear hok
        generalize hj : k - min k rm = j at *
        generalize hj' : k + 1 - min (k + 1) rm = j' at *
        generalize LW rm k = L at *
        generalize hL' : LW rm (k + 1) = L' at *
        have HJ' := Lib.hid hj'
        have HL' := Lib.hid hL'
        generalize rowZ k = rk at *
        generalize rowZ (j : Int) = rj at *
        clear hj hj' hL'
        go_wp2_with (first
          | (go_at_call 17; (with_reducible refine (HROW.out _).mono ?_); rintro e5 w5 ⟨g5, c5, rfl, hb5, hr5⟩; have HQ5 := Lib.hid (HQ.out.past hb5); have HR5 := Lib.hid hr5; clear hb5 hr5)
          | (go_at_call 16; (with_reducible refine (push_q w1 _ _ _ _ _ rk _ _ _ HQ5.out HR5.out HLL.out hm40).mono ?_); rintro e6 w6 ⟨A6, n6, c6, rfl, hq6, ho6, _, _⟩; rw [HPL.out, HPG.out] at hq6; rw [HOUT.out] at ho6; rw [HOUT.out, HOK.out]; have HQ6 := Lib.hid hq6; have HO6 : Hid (RVo (fun _ => True) w6 (.slice A6 n6 c6) (.bool rj.2) (some rj)) := Lib.hid ho6; have hco : contO (some rj) = rj.2 := rfl; rw [hco]; clear hq6 ho6 hco HQ5 HR5))
        have HO7 : Hid (∀ W, Below (w6.alloc (.cells #[.slice A6 n6 c6, .bool rj.2] 43)).heap.size (w6.alloc (.cells #[.slice A6 n6 c6, .bool rj.2] 43)) W → RVo (fun _ => True) W (.slice A6 n6 c6) (.bool rj.2) (some rj)) := Lib.hid fun W hW => HO6.out.past (bel1 (Below.refl _ _) hW)
        have HQ7 := Lib.hid (HQ6.out.past ((Below.refl _ _).alloc (Nat.le_refl _) (.cells #[.slice A6 n6 c6, .bool rj.2] 43)))
        have h7 := heap_alloc_new w6 (.cells #[.slice A6 n6 c6, .bool rj.2] 43)
        have hs7 : w6.heap.size < (w6.alloc (.cells #[.slice A6 n6 c6, .bool rj.2] 43)).heap.size := by simp
        clear HQ6 HO6
        generalize w6.alloc (.cells #[.slice A6 n6 c6, .bool rj.2] 43) = w7 at *
        generalize w6.heap.size = B6 at *
        have hS : (w7.cell? ⟨B6, 0, none⟩ = some (.slice A6 n6 c6) ∧ w7.cell? ⟨B6, 1, none⟩ = some (.bool rj.2) ∧ w7.cell? ⟨B6, 0, none⟩ = some (.slice A6 n6 c6) ∧ w7.cell? ⟨B6, 1, none⟩ = some (.bool rj.2)) ∧ (B6 < w7.heap.size ∧ B6 < w7.heap.size ∧ B6 < w7.heap.size ∧ B6 < w7.heap.size) ∧ Below w7.heap.size w7 w7 := ⟨⟨cell_of_row _ _ 0 _ _ _ h7, cell_of_row _ _ 1 _ _ _ h7, cell_of_row _ _ 0 _ _ _ h7, cell_of_row _ _ 1 _ _ _ h7⟩, ⟨hs7, hs7, hs7, hs7⟩, Below.refl _ _⟩
        have hSd := four_step (a1 := ⟨B6, 0, none⟩) (a2 := ⟨B6, 1, none⟩) (a3 := ⟨B6, 0, none⟩) (a4 := ⟨B6, 1, none⟩) hS (Below.refl w7.heap.size w7).drew
        have HONE : Hid (∀ W g c, Below w7.heap.size w7 W → RV (fun _ => True) W (.slice (some ⟨g, 0, none⟩) 1 c) (.bool rj.2) rj → Calls Try.prog 20 #[.agg #[.slice A6 n6 c6, .bool rj.2], .agg #[.slice (some ⟨g, 0, none⟩) 1 c, .bool rj.2]] W fun e w' => e = .returned (.bool true) ∧ Below W.heap.size W w') := Lib.hid fun W g c hW hr => one_any _ _ _ _ (some rj) W (HO7.out W hW) hr
        clear hS h7 hs7 HO7
        generalize hqa : rj.2 = qa at *
        clear hqa
        go_region_held3 (fun W => (W.cell? ⟨B6, 0, none⟩ = some (.slice A6 n6 c6) ∧ W.cell? ⟨B6, 1, none⟩ = some (.bool qa) ∧ W.cell? ⟨B6, 0, none⟩ = some (.slice A6 n6 c6) ∧ W.cell? ⟨B6, 1, none⟩ = some (.bool qa)) ∧ (B6 < W.heap.size ∧ B6 < W.heap.size ∧ B6 < W.heap.size ∧ B6 < W.heap.size) ∧ Below w7.heap.size w7 W)
          (first | exact hSd | exact four_step (a1 := ⟨B6, 0, none⟩) (a2 := ⟨B6, 1, none⟩) (a3 := ⟨B6, 0, none⟩) (a4 := ⟨B6, 1, none⟩) hSd hbx | exact four_step (a1 := ⟨B6, 0, none⟩) (a2 := ⟨B6, 1, none⟩) (a3 := ⟨B6, 0, none⟩) (a4 := ⟨B6, 1, none⟩) (by assumption) hbx | assumption)
          (first
            | (go_at_call 17; (with_reducible refine (HROJ.out _).mono ?_); rintro e8 w8 ⟨ga, ca, rfl, hbx, hra⟩; have HRA := Lib.hid hra; clear hra)
            | (go_at_call 20; (with_reducible refine (HONE.out _ _ _ ?_ HRA.out).mono ?_); (first | exact hSd.2.2 | exact four_below (by assumption)); rintro e8 w8 ⟨rfl, hbx⟩))
        all_goals
          have HQ9 := Lib.hid (HQ7.out.past (four_below (a1 := ⟨B6, 0, none⟩) (a2 := ⟨B6, 1, none⟩) (a3 := ⟨B6, 0, none⟩) (a4 := ⟨B6, 1, none⟩) (by assumption)))
          go_wp2
          go_roundw
          case rel => exact ⟨k + 1, B6, hlt, by rw [HJ'.out], by go_num, Lib.hid (by rw [HJ'.out, HL'.out]; exact HQ9.out)⟩
          case measure => simp [intOf]; omega
      · have HOK : Hid (okZ rm (LW rm k) = false) := Lib.hid (by rw [LW_ok]; simp; omega)
        have HOUT : Hid (pushO rm (LW rm k) (rowZ k) = none) := Lib.hid (LW_none rm k (by omega))
        have HJJ := Lib.hid (show k - min k rm = k + 1 - min (k + 1) rm from by omega)
        clear hok
        generalize k - min k rm = j at *
        generalize hj' : k + 1 - min (k + 1) rm = j' at *
        generalize LW rm k = L at *
        generalize hL' : LW rm (k + 1) = L' at *
        have HJ' := Lib.hid hj'
        have HL' := Lib.hid hL'
        generalize rowZ k = rk at *
        clear hj' hL'
        go_wp2_with (first
          | (go_at_call 17; (with_reducible refine (HROW.out _).mono ?_); rintro e5 w5 ⟨g5, c5, rfl, hb5, hr5⟩; have HQ5 := Lib.hid (HQ.out.past hb5); have HR5 := Lib.hid hr5; clear hb5 hr5)
          | (go_at_call 16; (with_reducible refine (push_q w1 _ _ _ _ _ rk _ _ _ HQ5.out HR5.out HLL.out hm40).mono ?_); rintro e6 w6 ⟨A6, n6, c6, rfl, hq6, ho6, _, _⟩; rw [HPL.out, HPG.out] at hq6; rw [HOUT.out, HOK.out]; have HQ6 := Lib.hid hq6; have hco : contO none = false := rfl; rw [hco]; clear hq6 ho6 hco HQ5 HR5))
        have HQ7 := Lib.hid (HQ6.out.past ((Below.refl _ _).alloc (Nat.le_refl _) (.cells #[.slice A6 n6 c6, .bool false] 43)))
        go_roundw
        case rel => exact ⟨k + 1, _, hlt, by rw [HJ'.out, HJJ.out], by go_num, Lib.hid (by rw [HJ'.out, HL'.out]; exact HQ7.out)⟩
        case measure => simp [intOf]; omega
    · obtain rfl : k = n := by omega
      have hmin : min (k : Int) rm = ((min k rm : Nat) : Int) := by omega
      have HLEN : Hid (∀ W, Below wr.heap.size wr W → Calls Try.prog 11 #[.pointer (some ⟨D, 0, none⟩)] W fun e w' => e = .returned (.int .i64 ((min k rm : Nat) : Int)) ∧ w' = W) := Lib.hid fun W hW => by
        have := len_q w1 W _ _ _ _ _ (HQ.out.past hW)
        rwa [LW_len] at this
      have HGONE : Hid (∀ W, Below wr.heap.size wr W → Calls Try.prog 12 #[.pointer (some ⟨D, 0, none⟩)] W fun e w' => e = .returned (.int .u64 ((k - min k rm : Nat) : Int)) ∧ w' = W) := Lib.hid fun W hW => gone_q w1 W _ _ _ _ _ (HQ.out.past hW)
      have hs1 : IntKind.i64.wrap ((k : Int) - ((min k rm : Nat) : Int)) = ((k - min k rm : Nat) : Int) := by rw [IntWalk.i64_in _ (by omega)]; omega
      have hs2 : IntKind.u64.wrap ((k - min k rm : Nat) : Int) = ((k - min k rm : Nat) : Int) := IntWalk.u64_in _ (by omega)
      have HJM := Lib.hid (show ∀ i, i < min k rm → k - min k rm + i ≤ 1000 from fun i hi => by omega)
      have HAT := Lib.hid (fun i (hi : i < min k rm) => LW_at rm k i hi)
      have HLL := Lib.hid (LW_len rm k)
      have HATC : Hid (∀ (W : World) (m : Nat), Below wr.heap.size wr W → m < min k rm → Calls Try.prog 19 #[.pointer (some ⟨D, 0, none⟩), .int .i64 m] W fun e w' => ∃ g c, e = .returned (.tuple #[.agg #[.slice (some ⟨g, 0, none⟩) 1 c, .bool (rowZ ((k - min k rm + m : Nat) : Int)).2], .bool true]) ∧ Below W.heap.size W w' ∧ RV (fun _ => True) w' (.slice (some ⟨g, 0, none⟩) 1 c) (.bool (rowZ ((k - min k rm + m : Nat) : Int)).2) (rowZ ((k - min k rm + m : Nat) : Int))) := Lib.hid fun W m hW hm => by
        have h := at_q w1 W _ _ _ _ _ (HQ.out.past hW) m (by rw [LW_len]; exact hm) (by rw [LW_len]; omega)
        rw [LW_at rm k m hm] at h
        exact h.mono fun e w' ⟨g, c, h1, h2, h3⟩ => ⟨g, c, h1, h2, h3.mono fun _ _ _ => trivial⟩
      have HBW : Hid (Below w.heap.size w wr) := Lib.hid (bel0 HB1.out HQ.out.below)
      have hpe : (k ≤ rm ∧ k = min k rm ∧ k - min k rm = 0) ∨ (rm < k ∧ rm = min k rm) := by omega
      clear hmin HAT HLL HQ
      generalize k - min k rm = j at *
      generalize min k rm = p at *
      rcases hpe with ⟨h1, h2, h3⟩ | ⟨h1, h2⟩
      · have hle' : (k : Int) ≤ rm := by omega
        obtain rfl : k = p := h2
        obtain rfl : j = 0 := h3
        have HGONE2 : Hid (∀ W, Below wr.heap.size wr W → Calls Try.prog 12 #[.pointer (some ⟨D, 0, none⟩)] W fun e w' => e = .returned (.int .u64 0) ∧ w' = W) := Lib.hid HGONE.out
        have HATC2 : Hid (∀ (W : World) (m : Nat), Below wr.heap.size wr W → m < k → Calls Try.prog 19 #[.pointer (some ⟨D, 0, none⟩), .int .i64 m] W fun e w' => ∃ g c, e = .returned (.tuple #[.agg #[.slice (some ⟨g, 0, none⟩) 1 c, .bool (rowZ (m : Int)).2], .bool true]) ∧ Below W.heap.size W w' ∧ RV (fun _ => True) w' (.slice (some ⟨g, 0, none⟩) 1 c) (.bool (rowZ (m : Int)).2) (rowZ (m : Int))) := Lib.hid fun W m hW hm => by
          have := HATC.out W m hW hm
          rwa [Nat.zero_add] at this
        clear HGONE HATC hs1 hs2
        go_wp2_with (first
          | (go_at_call 11; go_must (with_reducible refine (HLEN.out _ (Below.refl _ _)).mono ?_; rintro e5 w5 ⟨rfl, hw5⟩; rw [hw5]; clear hw5))
          | (go_at_call 12; go_must (with_reducible refine (HGONE2.out _ (Below.refl _ _)).mono ?_; rintro e5 w5 ⟨rfl, hw5⟩; rw [hw5]; clear hw5)))
        go_loopw [13] (fun i W => ∃ m : Nat, m ≤ k ∧ i = .int .i64 m ∧ Hid (Below wr.heap.size wr W)) (fun i _ => k - (intOf i).toNat)
        case atStart => exact ⟨0, Nat.zero_le _, rfl, Lib.hid (Below.refl _ _)⟩
        case round =>
          obtain ⟨m, hm, rfl, HB⟩ := hrel
          by_cases hltm : m < k
          · have hltmi : (m : Int) < k := by omega
            have hadd : IntKind.i64.wrap (m : Int) = m := IntWalk.i64_in _ (by have := HJM.out m hltm; omega)
            have HA1 := Lib.hid (HATC2.out _ m HB.out hltm)
            have HROJ : Hid (∀ W, Calls Try.prog 17 #[.int .i64 (m : Int)] W fun e w' => ∃ g c, e = .returned (.agg #[.slice (some ⟨g, 0, none⟩) 1 c, .bool (rowZ (m : Int)).2]) ∧ Below W.heap.size W w' ∧ RV (fun _ => True) w' (.slice (some ⟨g, 0, none⟩) 1 c) (.bool (rowZ (m : Int)).2) (rowZ (m : Int))) := Lib.hid fun W => row_q _ (by have := HJM.out m hltm; omega) W
            generalize rowZ (m : Int) = rj at *
            go_wp2_with (go_at_call 19; go_must (with_reducible refine HA1.out.mono ?_; rintro e6 w6 ⟨g6, c6, rfl, hb6, hr6⟩; have HO6 := Lib.hid hr6; have HB6 := Lib.hid (bel0 HB.out hb6); clear hb6 hr6))
            have HO7 : Hid (∀ W, Below (w6.alloc (.cells #[.slice (some ⟨g6, 0, none⟩) 1 c6, .bool rj.2] 43)).heap.size (w6.alloc (.cells #[.slice (some ⟨g6, 0, none⟩) 1 c6, .bool rj.2] 43)) W → RVo (fun _ => True) W (.slice (some ⟨g6, 0, none⟩) 1 c6) (.bool rj.2) (some rj)) := Lib.hid fun W hW => HO6.out.past (bel1 (Below.refl _ _) hW)
            have HB7 := Lib.hid (belA HB6.out (.cells #[.slice (some ⟨g6, 0, none⟩) 1 c6, .bool rj.2] 43))
            have h7 := heap_alloc_new w6 (.cells #[.slice (some ⟨g6, 0, none⟩) 1 c6, .bool rj.2] 43)
            have hs7 : w6.heap.size < (w6.alloc (.cells #[.slice (some ⟨g6, 0, none⟩) 1 c6, .bool rj.2] 43)).heap.size := by simp
            clear HB6 HO6 HA1
            generalize w6.alloc (.cells #[.slice (some ⟨g6, 0, none⟩) 1 c6, .bool rj.2] 43) = w7 at *
            generalize w6.heap.size = B6 at *
            have hS : (w7.cell? ⟨B6, 0, none⟩ = some (.slice (some ⟨g6, 0, none⟩) 1 c6) ∧ w7.cell? ⟨B6, 1, none⟩ = some (.bool rj.2) ∧ w7.cell? ⟨B6, 0, none⟩ = some (.slice (some ⟨g6, 0, none⟩) 1 c6) ∧ w7.cell? ⟨B6, 1, none⟩ = some (.bool rj.2)) ∧ (B6 < w7.heap.size ∧ B6 < w7.heap.size ∧ B6 < w7.heap.size ∧ B6 < w7.heap.size) ∧ Below w7.heap.size w7 w7 := ⟨⟨cell_of_row _ _ 0 _ _ _ h7, cell_of_row _ _ 1 _ _ _ h7, cell_of_row _ _ 0 _ _ _ h7, cell_of_row _ _ 1 _ _ _ h7⟩, ⟨hs7, hs7, hs7, hs7⟩, Below.refl _ _⟩
            have hSd := four_step (a1 := ⟨B6, 0, none⟩) (a2 := ⟨B6, 1, none⟩) (a3 := ⟨B6, 0, none⟩) (a4 := ⟨B6, 1, none⟩) hS (Below.refl w7.heap.size w7).drew
            have HONE : Hid (∀ W g c, Below w7.heap.size w7 W → RV (fun _ => True) W (.slice (some ⟨g, 0, none⟩) 1 c) (.bool rj.2) rj → Calls Try.prog 20 #[.agg #[.slice (some ⟨g6, 0, none⟩) 1 c6, .bool rj.2], .agg #[.slice (some ⟨g, 0, none⟩) 1 c, .bool rj.2]] W fun e w' => e = .returned (.bool true) ∧ Below W.heap.size W w') := Lib.hid fun W g c hW hr => one_any _ _ _ _ (some rj) W (HO7.out W hW) hr
            clear hS h7 hs7 HO7
            generalize hqa : rj.2 = qa at *
            clear hqa
            go_region_held3 (fun W => (W.cell? ⟨B6, 0, none⟩ = some (.slice (some ⟨g6, 0, none⟩) 1 c6) ∧ W.cell? ⟨B6, 1, none⟩ = some (.bool qa) ∧ W.cell? ⟨B6, 0, none⟩ = some (.slice (some ⟨g6, 0, none⟩) 1 c6) ∧ W.cell? ⟨B6, 1, none⟩ = some (.bool qa)) ∧ (B6 < W.heap.size ∧ B6 < W.heap.size ∧ B6 < W.heap.size ∧ B6 < W.heap.size) ∧ Below w7.heap.size w7 W)
              (first | exact hSd | exact four_step (a1 := ⟨B6, 0, none⟩) (a2 := ⟨B6, 1, none⟩) (a3 := ⟨B6, 0, none⟩) (a4 := ⟨B6, 1, none⟩) hSd hbx | exact four_step (a1 := ⟨B6, 0, none⟩) (a2 := ⟨B6, 1, none⟩) (a3 := ⟨B6, 0, none⟩) (a4 := ⟨B6, 1, none⟩) (by assumption) hbx | assumption)
              (first
                | (go_at_call 17; (with_reducible refine (HROJ.out _).mono ?_); rintro e8 w8 ⟨ga, ca, rfl, hbx, hra⟩; have HRA := Lib.hid hra; clear hra)
                | (go_at_call 20; (with_reducible refine (HONE.out _ _ _ ?_ HRA.out).mono ?_); (first | exact hSd.2.2 | exact four_below (by assumption)); rintro e8 w8 ⟨rfl, hbx⟩))
            all_goals
              have HB9 := Lib.hid (bel0 HB7.out (four_below (a1 := ⟨B6, 0, none⟩) (a2 := ⟨B6, 1, none⟩) (a3 := ⟨B6, 0, none⟩) (a4 := ⟨B6, 1, none⟩) (by assumption)))
              go_wp2
              go_roundw
              case rel => exact ⟨m + 1, hltm, by go_num, HB9⟩
              case measure => simp [intOf]; omega
          · obtain rfl : m = k := by omega
            go_wp2
            go_ret
            exact ⟨rfl, bel0 HBW.out HB.out⟩
      · have hle' : ¬ (k : Int) ≤ rm := by omega
        have hlt' : (rm : Int) < k := by omega
        obtain rfl : rm = p := h2
        go_wp2_with (first
          | (go_at_call 11; go_must (with_reducible refine (HLEN.out _ (Below.refl _ _)).mono ?_; rintro e5 w5 ⟨rfl, hw5⟩; rw [hw5]; clear hw5))
          | (go_at_call 12; go_must (with_reducible refine (HGONE.out _ (Below.refl _ _)).mono ?_; rintro e5 w5 ⟨rfl, hw5⟩; rw [hw5]; clear hw5)))
        go_loopw [13] (fun i W => ∃ m : Nat, m ≤ rm ∧ i = .int .i64 m ∧ Hid (Below wr.heap.size wr W)) (fun i _ => rm - (intOf i).toNat)
        case atStart => exact ⟨0, Nat.zero_le _, rfl, Lib.hid (Below.refl _ _)⟩
        case round =>
          obtain ⟨m, hm, rfl, HB⟩ := hrel
          by_cases hltm : m < rm
          · have hltmi : (m : Int) < rm := by omega
            have hadd : IntKind.i64.wrap ((j : Int) + (m : Int)) = ((j + m : Nat) : Int) := by rw [IntWalk.i64_in _ (by have := HJM.out m hltm; omega)]; omega
            have HA1 := Lib.hid (HATC.out _ m HB.out hltm)
            have HROJ : Hid (∀ W, Calls Try.prog 17 #[.int .i64 ((j + m : Nat) : Int)] W fun e w' => ∃ g c, e = .returned (.agg #[.slice (some ⟨g, 0, none⟩) 1 c, .bool (rowZ ((j + m : Nat) : Int)).2]) ∧ Below W.heap.size W w' ∧ RV (fun _ => True) w' (.slice (some ⟨g, 0, none⟩) 1 c) (.bool (rowZ ((j + m : Nat) : Int)).2) (rowZ ((j + m : Nat) : Int))) := Lib.hid fun W => row_q _ (by have := HJM.out m hltm; omega) W
            generalize rowZ ((j + m : Nat) : Int) = rj at *
            generalize j + m = jm at *
            go_wp2_with (go_at_call 19; go_must (with_reducible refine HA1.out.mono ?_; rintro e6 w6 ⟨g6, c6, rfl, hb6, hr6⟩; have HO6 := Lib.hid hr6; have HB6 := Lib.hid (bel0 HB.out hb6); clear hb6 hr6))
            have HO7 : Hid (∀ W, Below (w6.alloc (.cells #[.slice (some ⟨g6, 0, none⟩) 1 c6, .bool rj.2] 43)).heap.size (w6.alloc (.cells #[.slice (some ⟨g6, 0, none⟩) 1 c6, .bool rj.2] 43)) W → RVo (fun _ => True) W (.slice (some ⟨g6, 0, none⟩) 1 c6) (.bool rj.2) (some rj)) := Lib.hid fun W hW => HO6.out.past (bel1 (Below.refl _ _) hW)
            have HB7 := Lib.hid (belA HB6.out (.cells #[.slice (some ⟨g6, 0, none⟩) 1 c6, .bool rj.2] 43))
            have h7 := heap_alloc_new w6 (.cells #[.slice (some ⟨g6, 0, none⟩) 1 c6, .bool rj.2] 43)
            have hs7 : w6.heap.size < (w6.alloc (.cells #[.slice (some ⟨g6, 0, none⟩) 1 c6, .bool rj.2] 43)).heap.size := by simp
            clear HB6 HO6 HA1
            generalize w6.alloc (.cells #[.slice (some ⟨g6, 0, none⟩) 1 c6, .bool rj.2] 43) = w7 at *
            generalize w6.heap.size = B6 at *
            have hS : (w7.cell? ⟨B6, 0, none⟩ = some (.slice (some ⟨g6, 0, none⟩) 1 c6) ∧ w7.cell? ⟨B6, 1, none⟩ = some (.bool rj.2) ∧ w7.cell? ⟨B6, 0, none⟩ = some (.slice (some ⟨g6, 0, none⟩) 1 c6) ∧ w7.cell? ⟨B6, 1, none⟩ = some (.bool rj.2)) ∧ (B6 < w7.heap.size ∧ B6 < w7.heap.size ∧ B6 < w7.heap.size ∧ B6 < w7.heap.size) ∧ Below w7.heap.size w7 w7 := ⟨⟨cell_of_row _ _ 0 _ _ _ h7, cell_of_row _ _ 1 _ _ _ h7, cell_of_row _ _ 0 _ _ _ h7, cell_of_row _ _ 1 _ _ _ h7⟩, ⟨hs7, hs7, hs7, hs7⟩, Below.refl _ _⟩
            have hSd := four_step (a1 := ⟨B6, 0, none⟩) (a2 := ⟨B6, 1, none⟩) (a3 := ⟨B6, 0, none⟩) (a4 := ⟨B6, 1, none⟩) hS (Below.refl w7.heap.size w7).drew
            have HONE : Hid (∀ W g c, Below w7.heap.size w7 W → RV (fun _ => True) W (.slice (some ⟨g, 0, none⟩) 1 c) (.bool rj.2) rj → Calls Try.prog 20 #[.agg #[.slice (some ⟨g6, 0, none⟩) 1 c6, .bool rj.2], .agg #[.slice (some ⟨g, 0, none⟩) 1 c, .bool rj.2]] W fun e w' => e = .returned (.bool true) ∧ Below W.heap.size W w') := Lib.hid fun W g c hW hr => one_any _ _ _ _ (some rj) W (HO7.out W hW) hr
            clear hS h7 hs7 HO7
            generalize hqa : rj.2 = qa at *
            clear hqa
            go_region_held3 (fun W => (W.cell? ⟨B6, 0, none⟩ = some (.slice (some ⟨g6, 0, none⟩) 1 c6) ∧ W.cell? ⟨B6, 1, none⟩ = some (.bool qa) ∧ W.cell? ⟨B6, 0, none⟩ = some (.slice (some ⟨g6, 0, none⟩) 1 c6) ∧ W.cell? ⟨B6, 1, none⟩ = some (.bool qa)) ∧ (B6 < W.heap.size ∧ B6 < W.heap.size ∧ B6 < W.heap.size ∧ B6 < W.heap.size) ∧ Below w7.heap.size w7 W)
              (first | exact hSd | exact four_step (a1 := ⟨B6, 0, none⟩) (a2 := ⟨B6, 1, none⟩) (a3 := ⟨B6, 0, none⟩) (a4 := ⟨B6, 1, none⟩) hSd hbx | exact four_step (a1 := ⟨B6, 0, none⟩) (a2 := ⟨B6, 1, none⟩) (a3 := ⟨B6, 0, none⟩) (a4 := ⟨B6, 1, none⟩) (by assumption) hbx | assumption)
              (first
                | (go_at_call 17; (with_reducible refine (HROJ.out _).mono ?_); rintro e8 w8 ⟨ga, ca, rfl, hbx, hra⟩; have HRA := Lib.hid hra; clear hra)
                | (go_at_call 20; (with_reducible refine (HONE.out _ _ _ ?_ HRA.out).mono ?_); (first | exact hSd.2.2 | exact four_below (by assumption)); rintro e8 w8 ⟨rfl, hbx⟩))
            all_goals
              have HB9 := Lib.hid (bel0 HB7.out (four_below (a1 := ⟨B6, 0, none⟩) (a2 := ⟨B6, 1, none⟩) (a3 := ⟨B6, 0, none⟩) (a4 := ⟨B6, 1, none⟩) (by assumption)))
              go_wp2
              go_roundw
              case rel => exact ⟨m + 1, hltm, by go_num, HB9⟩
              case measure => simp [intOf]; omega
          · obtain rfl : m = rm := by omega
            go_wp2
            go_ret
            exact ⟨rfl, bel0 HBW.out HB.out⟩
end Go.Proofs.Ytfablhfjjlmdgaa
