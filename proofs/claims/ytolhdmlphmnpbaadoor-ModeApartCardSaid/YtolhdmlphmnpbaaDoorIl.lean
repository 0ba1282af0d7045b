/- Awake; the law ModeReports. -/
import Derived.Test.YtolhdmlphmnpbaaDoorIk
namespace Go.Proofs.YtolhdmlphmnpbaaDoor
open Go.RowKit

theorem strsB_self (l : List (List UInt8)) : strsB l l = true := decide_eq_true rfl
theorem rep7 : bsB (repT true 7 (stZ firstF (placeZ true 7))) = ⟨#[27, 91, 63, 55, 59, 49, 36, 121]⟩ := by
  rw [place7]
  simp [bsB, repT, stZ, isS, firstF, textM, Lib.itoa, Lib.decDigits]
set_option maxRecDepth 100000 in
set_option maxHeartbeats 4000000 in
theorem awake_any (w : World) (hT : NT w) (hI : TI w) : Calls Tryd.prog 7 #[] w fun e w' => e = .returned (.bool true) ∧ Below w.heap.size w w' := by
  have H1 := Lib.hid (new_any w hT)
  have H2 : Hid (∀ W, Below w.heap.size w W → Calls Tryd.prog 19 #[.agg (sv firstF), .bool true, .int .i64 7] W fun e w' => e = .returned (.string ⟨#[27, 91, 63, 55, 59, 49, 36, 121]⟩) ∧ Below W.heap.size W w') := Lib.hid fun W hb => by
    have h := report_any firstF true 7 (by omega) (by omega) W (hT.below hb) (hI.below hb)
    rwa [rep7] at h
  have H3 : Hid (∀ W, Below w.heap.size w W → Calls Tryd.prog 8 #[] W fun e w' => e = .returned (.agg (sv firstF)) ∧ Below W.heap.size W w') := Lib.hid fun W hb => new_any W (hT.below hb)
  have H4 : Hid (∀ W, Below w.heap.size w W → Calls Tryd.prog 14 #[.agg (sv firstF)] W (StrsPost (listL firstF) W)) := Lib.hid fun W hb => list_any firstF W (hT.below hb) (hI.below hb)
  clear hT hI
  generalize hv : sv firstF = v at *
  clear hv
  go_enter Tryd.func7, Tryd.ntmps7
  go_wp2_with (first
    | (go_at_call 8; (with_reducible refine (H1.out).mono ?_); rintro e w1 ⟨rfl, hb⟩; have HB1 := Lib.hid hb; clear hb)
    | (go_at_call 19; (with_reducible refine (H2.out _ HB1.out).mono ?_); rintro e w2 ⟨rfl, hb⟩; have HB2 := Lib.hid (bel0 HB1.out hb); clear hb)
    | (go_at_call 8; (with_reducible refine (H3.out _ HB2.out).mono ?_); rintro e w3 ⟨rfl, hb⟩; have HB3 := Lib.hid (bel0 HB2.out hb); clear hb)
    | (go_at_call 14; (with_reducible refine (H4.out _ HB3.out).mono ?_); rintro e w4 ⟨vl, rfl, ho, hb⟩; have HB4 := Lib.hid (bel0 HB3.out hb); obtain ⟨A1, c1, hf, _⟩ := own_form ho; subst hf; have HR4 := Lib.hid (RT.of_own ho); clear hb ho)
    | (go_at_call 9; (with_reducible refine (first_any _).mono ?_); rintro e w5 ⟨rfl, hb, hr⟩; have HS := Lib.hid (strs_any A1 _ (listL firstF) (listL firstF) (listL firstF).length 2 c1 2 rfl (by rw [← first_list]; rfl) (by have := listL_le firstF; omega) w5 ((HR4.out.below hb).more hb.size) hr); have HB5 := Lib.hid (bel0 HB4.out hb); clear hb hr)
    | (go_at_call 13; (with_reducible refine (HS.out).mono ?_); rintro e w6 ⟨rfl, hb⟩; have HB6 := Lib.hid (bel0 HB5.out hb); clear hb))
  go_ret
  exact ⟨by rw [strsB_self]; rfl, HB6.out⟩

/-- What the law says is told. -/
theorem rep_state (p : Bool) (n : Int) (on : Bool) : stZ (updS firstF (placeZ p n) on) (placeZ p n) = if 0 ≤ placeZ p n then (if on = true then 1 else 2) else 0 := by
  have key : isS (updS firstF (placeZ p n) on) (placeZ p n) = (decide (0 ≤ placeZ p n) && on) := by
    unfold isS updS
    by_cases h : 0 ≤ placeZ p n
    · rw [if_pos (by omega)]
    · rw [decide_eq_false h]
      rfl
  rw [stZ, key]
  by_cases h : 0 ≤ placeZ p n
  · rw [decide_eq_true h, Bool.true_and, if_pos h, if_pos h]
  · rw [decide_eq_false h, Bool.false_and, if_neg (by decide), if_neg h, if_neg h]
def howT (z : Int) (on : Bool) : List UInt8 := if 0 ≤ z then (if on = true then [49] else [50]) else [48]
theorem how_st (z : Int) (on : Bool) : Lib.itoa (if 0 ≤ z then (if on = true then 1 else 2) else 0) = howT z on := by
  unfold howT
  by_cases h : 0 ≤ z
  · rw [if_pos h, if_pos h]
    cases on <;> simp [Lib.itoa, Lib.decDigits]
  · rw [if_neg h, if_neg h]
    simp [Lib.itoa, Lib.decDigits]
theorem all_has (p : Bool) (n : Int) : allTx.contains (textM p n) = decide (0 ≤ placeZ p n) := by
  rw [all_list, listL_has]
  simp [isS]
set_option maxRecDepth 100000 in
set_option maxHeartbeats 4000000 in
theorem modeReports_law (p : Bool) (n : Int) (h0 : -9223372036854775808 ≤ n) (h1 : n ≤ 9223372036854775807) (on : Bool) (w : World) (hT : NT w) (hI : TI w) :
    Calls Tryd.prog 4 #[.bool p, .int .i64 n, .bool on] w fun e w' => e = .returned (.bool true) ∧ Below w.heap.size w w' := by
  have H1 := Lib.hid (name_any p n h0 h1 w)
  have H2 : Hid (∀ A W, RT W W.heap.size A allTx → Calls Tryd.prog 16 #[.slice A 18 18, .string (bsB (textM p n))] W fun e w' => e = .returned (.bool (decide (0 ≤ placeZ p n))) ∧ Below W.heap.size W w') := Lib.hid fun A W hr => by
    have h := has_any A allTx 18 18 allTx_len.symm (by omega) (textM p n) W hr
    rwa [all_has] at h
  have H3 : Hid (∀ W, Below w.heap.size w W → Calls Tryd.prog 8 #[] W fun e w' => e = .returned (.agg (sv firstF)) ∧ Below W.heap.size W w') := Lib.hid fun W hb => new_any W (hT.below hb)
  have H4 : Hid (∀ W, Below w.heap.size w W → Calls Tryd.prog 10 #[.agg (sv firstF), .bool p, .int .i64 n, .bool on] W fun e w' => e = .returned (.agg (sv (updS firstF (placeZ p n) on))) ∧ Below W.heap.size W w') := Lib.hid fun W hb => with_any firstF p n on W (hT.below hb)
  have H5 : Hid (∀ W, Below w.heap.size w W → Calls Tryd.prog 19 #[.agg (sv (updS firstF (placeZ p n) on)), .bool p, .int .i64 n] W fun e w' => e = .returned (.string (bsB ([27, 91] ++ textM p n ++ [59] ++ howT (placeZ p n) on ++ [36, 121]))) ∧ Below W.heap.size W w') := Lib.hid fun W hb => by
    have h := report_any (updS firstF (placeZ p n) on) p n h0 h1 W (hT.below hb) (hI.below hb)
    rwa [rep_state, repT, how_st] at h
  have H6 : Hid (∀ W, Below w.heap.size w W → Calls Tryd.prog 7 #[] W fun e w' => e = .returned (.bool true) ∧ Below W.heap.size W w') := Lib.hid fun W hb => awake_any W (hT.below hb) (hI.below hb)
  have hs := textM_short p n h0 h1
  have HT : Hid (∀ l : List UInt8, (bsB ([27, 91] ++ textM p n ++ [59] ++ l ++ [36, 121])).toList == ((⟨#[27, 91]⟩ : ByteArray) ++ bsB (textM p n) ++ (⟨#[59]⟩ : ByteArray) ++ bsB l ++ (⟨#[36, 121]⟩ : ByteArray)).toList) := Lib.hid fun l => by
    have : (⟨#[27, 91]⟩ : ByteArray) ++ bsB (textM p n) ++ (⟨#[59]⟩ : ByteArray) ++ bsB l ++ (⟨#[36, 121]⟩ : ByteArray) = bsB ([27, 91] ++ textM p n ++ [59] ++ l ++ [36, 121]) := by
      apply ByteArray.ext
      simp [bsB]
    rw [this]
    exact beq_self_eq_true _
  clear hT hI h0 h1
  generalize hu : sv (updS firstF (placeZ p n) on) = v at *
  generalize hv : sv firstF = v0 at *
  clear hu hv
  by_cases hz : 0 ≤ placeZ p n
  · have hzd := decide_eq_true hz
    rw [hzd] at H2
    cases on with
    | true =>
      have ht := HT.out [49]
      rw [howT, if_pos hz, if_pos rfl] at H5
      clear HT hz hzd
      change ((bsB ([27, 91] ++ textM p n ++ [59] ++ [49] ++ [36, 121])).toList == ((⟨#[27, 91]⟩ : ByteArray) ++ bsB (textM p n) ++ (⟨#[59]⟩ : ByteArray) ++ (⟨#[49]⟩ : ByteArray) ++ (⟨#[36, 121]⟩ : ByteArray)).toList) = true at ht
      generalize bsB ([27, 91] ++ textM p n ++ [59] ++ [49] ++ [36, 121]) = R at *
      generalize bsB (textM p n) = s at *
      go_enter Tryd.func4, Tryd.ntmps4
      go_wp2_with (first
        | (go_at_call 12; (with_reducible refine (H1.out).mono ?_); rintro e w1 ⟨rfl, hb⟩; have HB1 := Lib.hid hb; clear hb)
        | (go_at_call 18; (with_reducible refine (all_any _).mono ?_); rintro e w2 ⟨rfl, hb, hr⟩; have HB2 := Lib.hid (bel0 HB1.out hb); have HR2 := Lib.hid hr; clear hb hr)
        | (go_at_call 16; (with_reducible refine (H2.out _ _ HR2.out).mono ?_); rintro e w3 ⟨rfl, hb⟩; have HB3 := Lib.hid (bel0 HB2.out hb); clear hb)
        | (go_at_call 8; (with_reducible refine (H3.out _ HB3.out).mono ?_); rintro e w4 ⟨rfl, hb⟩; have HB4 := Lib.hid (bel0 HB3.out hb); clear hb)
        | (go_at_call 10; (with_reducible refine (H4.out _ HB4.out).mono ?_); rintro e w5 ⟨rfl, hb⟩; have HB5 := Lib.hid (bel0 HB4.out hb); clear hb)
        | (go_at_call 19; (with_reducible refine (H5.out _ HB5.out).mono ?_); rintro e w6 ⟨rfl, hb⟩; have HB6 := Lib.hid (bel0 HB5.out hb); clear hb)
        | (go_at_call 7; (with_reducible refine (H6.out _ HB6.out).mono ?_); rintro e w7 ⟨rfl, hb⟩; have HB7 := Lib.hid (bel0 HB6.out hb); clear hb))
      go_ret
      exact ⟨rfl, HB7.out⟩
    | false =>
      have ht := HT.out [50]
      rw [howT, if_pos hz, if_neg (by decide)] at H5
      clear HT hz hzd
      change ((bsB ([27, 91] ++ textM p n ++ [59] ++ [50] ++ [36, 121])).toList == ((⟨#[27, 91]⟩ : ByteArray) ++ bsB (textM p n) ++ (⟨#[59]⟩ : ByteArray) ++ (⟨#[50]⟩ : ByteArray) ++ (⟨#[36, 121]⟩ : ByteArray)).toList) = true at ht
      generalize bsB ([27, 91] ++ textM p n ++ [59] ++ [50] ++ [36, 121]) = R at *
      generalize bsB (textM p n) = s at *
      go_enter Tryd.func4, Tryd.ntmps4
      go_wp2_with (first
        | (go_at_call 12; (with_reducible refine (H1.out).mono ?_); rintro e w1 ⟨rfl, hb⟩; have HB1 := Lib.hid hb; clear hb)
        | (go_at_call 18; (with_reducible refine (all_any _).mono ?_); rintro e w2 ⟨rfl, hb, hr⟩; have HB2 := Lib.hid (bel0 HB1.out hb); have HR2 := Lib.hid hr; clear hb hr)
        | (go_at_call 16; (with_reducible refine (H2.out _ _ HR2.out).mono ?_); rintro e w3 ⟨rfl, hb⟩; have HB3 := Lib.hid (bel0 HB2.out hb); clear hb)
        | (go_at_call 8; (with_reducible refine (H3.out _ HB3.out).mono ?_); rintro e w4 ⟨rfl, hb⟩; have HB4 := Lib.hid (bel0 HB3.out hb); clear hb)
        | (go_at_call 10; (with_reducible refine (H4.out _ HB4.out).mono ?_); rintro e w5 ⟨rfl, hb⟩; have HB5 := Lib.hid (bel0 HB4.out hb); clear hb)
        | (go_at_call 19; (with_reducible refine (H5.out _ HB5.out).mono ?_); rintro e w6 ⟨rfl, hb⟩; have HB6 := Lib.hid (bel0 HB5.out hb); clear hb)
        | (go_at_call 7; (with_reducible refine (H6.out _ HB6.out).mono ?_); rintro e w7 ⟨rfl, hb⟩; have HB7 := Lib.hid (bel0 HB6.out hb); clear hb))
      go_ret
      exact ⟨rfl, HB7.out⟩
  · have hzd := decide_eq_false hz
    rw [hzd] at H2
    have ht := HT.out [48]
    rw [howT, if_neg hz] at H5
    clear HT hz hzd
    change ((bsB ([27, 91] ++ textM p n ++ [59] ++ [48] ++ [36, 121])).toList == ((⟨#[27, 91]⟩ : ByteArray) ++ bsB (textM p n) ++ (⟨#[59]⟩ : ByteArray) ++ (⟨#[48]⟩ : ByteArray) ++ (⟨#[36, 121]⟩ : ByteArray)).toList) = true at ht
    generalize bsB ([27, 91] ++ textM p n ++ [59] ++ [48] ++ [36, 121]) = R at *
    generalize bsB (textM p n) = s at *
    go_enter Tryd.func4, Tryd.ntmps4
    go_wp2_with (first
      | (go_at_call 12; (with_reducible refine (H1.out).mono ?_); rintro e w1 ⟨rfl, hb⟩; have HB1 := Lib.hid hb; clear hb)
      | (go_at_call 18; (with_reducible refine (all_any _).mono ?_); rintro e w2 ⟨rfl, hb, hr⟩; have HB2 := Lib.hid (bel0 HB1.out hb); have HR2 := Lib.hid hr; clear hb hr)
      | (go_at_call 16; (with_reducible refine (H2.out _ _ HR2.out).mono ?_); rintro e w3 ⟨rfl, hb⟩; have HB3 := Lib.hid (bel0 HB2.out hb); clear hb)
      | (go_at_call 8; (with_reducible refine (H3.out _ HB3.out).mono ?_); rintro e w4 ⟨rfl, hb⟩; have HB4 := Lib.hid (bel0 HB3.out hb); clear hb)
      | (go_at_call 10; (with_reducible refine (H4.out _ HB4.out).mono ?_); rintro e w5 ⟨rfl, hb⟩; have HB5 := Lib.hid (bel0 HB4.out hb); clear hb)
      | (go_at_call 19; (with_reducible refine (H5.out _ HB5.out).mono ?_); rintro e w6 ⟨rfl, hb⟩; have HB6 := Lib.hid (bel0 HB5.out hb); clear hb)
      | (go_at_call 7; (with_reducible refine (H6.out _ HB6.out).mono ?_); rintro e w7 ⟨rfl, hb⟩; have HB7 := Lib.hid (bel0 HB6.out hb); clear hb))
    go_ret
    exact ⟨rfl, HB7.out⟩
end Go.Proofs.YtolhdmlphmnpbaaDoor
