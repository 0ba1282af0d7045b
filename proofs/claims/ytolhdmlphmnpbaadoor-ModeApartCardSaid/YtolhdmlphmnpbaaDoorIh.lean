/- The walk of Report. -/
import Derived.Test.YtolhdmlphmnpbaaDoorIg
namespace Go.Proofs.YtolhdmlphmnpbaaDoor
open Go.RowKit

/-- What is told of a mode in the state st. -/
def repT (p : Bool) (n : Int) (st : Int) : List UInt8 := [27, 91] ++ textM p n ++ [59] ++ Lib.itoa st ++ [36, 121]
def stZ (f : Nat → Bool) (z : Int) : Int := if isS f z then 1 else if 0 ≤ z then 2 else 0
theorem textM_short (p : Bool) (n : Int) (h0 : -9223372036854775808 ≤ n) (h1 : n ≤ 9223372036854775807) : (bsB (textM p n)).size ≤ 22 := by
  rw [bsB_size, textM, List.length_append]
  have := Lib.itoa_length_le n h0 h1
  cases p <;> simp <;> omega
theorem set_box {w w1 : World} {f : Nat → Bool} (hb : Below (w.alloc (.cells (sv f) 26)).heap.size (w.alloc (.cells (sv f) 26)) w1) : w1.heap[w.heap.size]? = some (.cells (sv f) 26 (0, 0)) :=
  (hb.block _ (by simp)).trans (heap_alloc_new w _)
set_option maxRecDepth 100000 in
set_option maxHeartbeats 4000000 in
theorem report_any (f : Nat → Bool) (p : Bool) (n : Int) (h0 : -9223372036854775808 ≤ n) (h1 : n ≤ 9223372036854775807) (w : World) (hT : NT w) (hI : TI w) :
    Calls Tryd.prog 19 #[.agg (sv f), .bool p, .int .i64 n] w fun e w' => e = .returned (.string (bsB (repT p n (stZ f (placeZ p n))))) ∧ Below w.heap.size w w' := by
  have HW := Lib.hid (belA (Below.refl w.heap.size w) (.cells (sv f) 26))
  have H1 : Hid (∀ W, Below w.heap.size w W → Calls Tryd.prog 15 #[.agg (sv f), .bool p, .int .i64 n] W fun e w' => e = .returned (.bool (isS f (placeZ p n))) ∧ Below W.heap.size W w') := Lib.hid fun W hb => is_any f p n W (hT.below hb)
  have H2 : Hid (∀ W, Below w.heap.size w W → Calls Tryd.prog 17 #[.bool p, .int .i64 n] W fun e w' => e = .returned (.bool (decide (0 ≤ placeZ p n))) ∧ Below W.heap.size W w') := Lib.hid fun W hb => known_any p n W (hT.below hb)
  have H3 : Hid (∀ W, Below w.heap.size w W → Calls Tryd.prog 23 #[.agg #[.bool p, .int .i64 n]] W fun e w' => e = .returned (.string (bsB (textM p n))) ∧ Below W.heap.size W w') := Lib.hid fun W hb => text_any p n h0 h1 W (hI.below hb)
  have H4 : Hid (∀ (st : Int), 0 ≤ st → st ≤ 2 → ∀ W, Below w.heap.size w W → Calls Tryd.prog 24 #[.int .i64 st] W fun e w' => e = .returned (.string (bsB (Lib.itoa st))) ∧ Below W.heap.size W w') := Lib.hid fun st a b W hb => itoa_any st (by omega) (by omega) W (hI.below hb)
  have hs := textM_short p n h0 h1
  have hs1 := itoa_short 1 (by omega) (by omega)
  have hs2 := itoa_short 2 (by omega) (by omega)
  have hs0 := itoa_short 0 (by omega) (by omega)
  have HR : Hid (∀ st, (⟨#[27, 91]⟩ : ByteArray) ++ bsB (textM p n) ++ (⟨#[59]⟩ : ByteArray) ++ bsB (Lib.itoa st) ++ (⟨#[36, 121]⟩ : ByteArray) = bsB (repT p n st)) := Lib.hid fun st => by
    apply ByteArray.ext
    simp [bsB, repT]
  have HST : Hid (stZ f (placeZ p n) = if isS f (placeZ p n) = true then 1 else if decide (0 ≤ placeZ p n) = true then 2 else 0) := Lib.hid (by
    unfold stZ
    simp only [decide_eq_true_eq])
  clear hT hI h0 h1
  generalize isS f (placeZ p n) = b1 at *
  generalize decide (0 ≤ placeZ p n) = b2 at *
  generalize stZ f (placeZ p n) = st at *
  cases b1 with
  | true =>
    obtain rfl : st = 1 := HST.out
    have HR1 := Lib.hid (HR.out 1)
    have H5 := Lib.hid (H4.out 1 (by omega) (by omega))
    clear HST HR H4 hs2 hs0 H2
    generalize bsB (Lib.itoa 1) = s1 at *
    generalize bsB (textM p n) = s at *
    go_enter Tryd.func19, Tryd.ntmps19
    go_wp2_with (first
      | (refine wpList_load_row rfl 26 _ rfl w.heap.size rfl 26 _ (0, 0) _ (heap_alloc_new w _) Tryd.underlying26 rfl (infoSet _) ?_)
      | (go_at_call 15; (with_reducible refine (H1.out _ HW.out).mono ?_); rintro e w1 ⟨rfl, hb⟩; have HB1 := Lib.hid (bel0 HW.out hb); clear hb)
      | (go_at_call 23; (with_reducible refine (H3.out _ HB1.out).mono ?_); rintro e w3 ⟨rfl, hb⟩; have HB3 := Lib.hid (bel0 HB1.out hb); clear hb)
      | (go_at_call 24; (with_reducible refine (H5.out _ HB3.out).mono ?_); rintro e w4 ⟨rfl, hb⟩; have HB4 := Lib.hid (bel0 HB3.out hb); clear hb))
    go_ret
    exact ⟨by rw [← HR1.out]; rfl, HB4.out⟩
  | false =>
    cases b2 with
    | true =>
      obtain rfl : st = 2 := HST.out
      have HR1 := Lib.hid (HR.out 2)
      have H5 := Lib.hid (H4.out 2 (by omega) (by omega))
      clear HST HR H4 hs1 hs0
      generalize bsB (Lib.itoa 2) = s1 at *
      generalize bsB (textM p n) = s at *
      go_enter Tryd.func19, Tryd.ntmps19
      go_wp2_with (first
        | (refine wpList_load_row rfl 26 _ rfl w.heap.size rfl 26 _ (0, 0) _ (heap_alloc_new w _) Tryd.underlying26 rfl (infoSet _) ?_)
        | (go_at_call 15; (with_reducible refine (H1.out _ HW.out).mono ?_); rintro e w1 ⟨rfl, hb⟩; have HB1 := Lib.hid (bel0 HW.out hb); clear hb)
        | (go_at_call 17; (with_reducible refine (H2.out _ HB1.out).mono ?_); rintro e w2 ⟨rfl, hb⟩; have HB2 := Lib.hid (bel0 HB1.out hb); clear hb)
        | (go_at_call 23; (with_reducible refine (H3.out _ HB2.out).mono ?_); rintro e w3 ⟨rfl, hb⟩; have HB3 := Lib.hid (bel0 HB2.out hb); clear hb)
        | (go_at_call 24; (with_reducible refine (H5.out _ HB3.out).mono ?_); rintro e w4 ⟨rfl, hb⟩; have HB4 := Lib.hid (bel0 HB3.out hb); clear hb))
      go_ret
      exact ⟨by rw [← HR1.out]; rfl, HB4.out⟩
    | false =>
      obtain rfl : st = 0 := HST.out
      have HR1 := Lib.hid (HR.out 0)
      have H5 := Lib.hid (H4.out 0 (by omega) (by omega))
      clear HST HR H4 hs1 hs2
      generalize bsB (Lib.itoa 0) = s1 at *
      generalize bsB (textM p n) = s at *
      go_enter Tryd.func19, Tryd.ntmps19
      go_wp2_with (first
        | (refine wpList_load_row rfl 26 _ rfl w.heap.size rfl 26 _ (0, 0) _ (heap_alloc_new w _) Tryd.underlying26 rfl (infoSet _) ?_)
        | (go_at_call 15; (with_reducible refine (H1.out _ HW.out).mono ?_); rintro e w1 ⟨rfl, hb⟩; have HB1 := Lib.hid (bel0 HW.out hb); clear hb)
        | (go_at_call 17; (with_reducible refine (H2.out _ HB1.out).mono ?_); rintro e w2 ⟨rfl, hb⟩; have HB2 := Lib.hid (bel0 HB1.out hb); clear hb)
        | (go_at_call 23; (with_reducible refine (H3.out _ HB2.out).mono ?_); rintro e w3 ⟨rfl, hb⟩; have HB3 := Lib.hid (bel0 HB2.out hb); clear hb)
        | (go_at_call 24; (with_reducible refine (H5.out _ HB3.out).mono ?_); rintro e w4 ⟨rfl, hb⟩; have HB4 := Lib.hid (bel0 HB3.out hb); clear hb))
      go_ret
      exact ⟨by rw [← HR1.out]; rfl, HB4.out⟩
end Go.Proofs.YtolhdmlphmnpbaaDoor
