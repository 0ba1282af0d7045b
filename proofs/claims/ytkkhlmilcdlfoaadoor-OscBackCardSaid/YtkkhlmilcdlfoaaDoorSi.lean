/- The walks of Write, the program's and the document's. Written by mksi.py. -/
import Derived.Test.YtkkhlmilcdlfoaaDoorSb
import Derived.Test.YtkkhlmilcdlfoaaDoorSg
namespace Go.Proofs.YtkkhlmilcdlfoaaDoor
open Go.RowKit

/-- What a sign is written as. -/
def writeP (k z : Int) (h : Bool) (l : List UInt8) : List UInt8 :=
  if k = 1 then [49, 51, 51, 59, 65] else if k = 2 then [49, 51, 51, 59, 66] else if k = 3 then [49, 51, 51, 59, 67] else
  if k = 4 then (if h = true then [49, 51, 51, 59, 68, 59] ++ Lib.itoa z else [49, 51, 51, 59, 68]) else
  if k = 5 then [54, 51, 51, 59, 69, 59] ++ escL l else if k = 6 then [54, 51, 51, 59, 80, 59, 67, 119, 100, 61] ++ escL l else
  if k = 7 then [49, 51, 51, 55, 59, 83, 101, 116, 77, 97, 114, 107] else if k = 8 then [50, 59] ++ l else []
set_option maxRecDepth 100000 in
set_option maxHeartbeats 4000000 in
theorem write_1 (z : Int) (h : Bool) (l : List UInt8) (w : World) : Calls Tryd.prog 12 #[.agg #[.int .i64 1, .int .i64 z, .bool h, .string (bsB l)]] w fun e w' => e = .returned (.string (bsB [49, 51, 51, 59, 65])) ∧ Below w.heap.size w w' := by
  have HW := Lib.hid (belA (Below.refl w.heap.size w) (.cells #[.int .i64 1, .int .i64 z, .bool h, .string (bsB l)] 24))
  generalize bsB l = t at *
  go_enter Tryd.func12, Tryd.ntmps12
  go_wp2
  go_ret
  exact ⟨rfl, HW.out⟩
set_option maxRecDepth 100000 in
set_option maxHeartbeats 4000000 in
theorem write_2 (z : Int) (h : Bool) (l : List UInt8) (w : World) : Calls Tryd.prog 12 #[.agg #[.int .i64 2, .int .i64 z, .bool h, .string (bsB l)]] w fun e w' => e = .returned (.string (bsB [49, 51, 51, 59, 66])) ∧ Below w.heap.size w w' := by
  have HW := Lib.hid (belA (Below.refl w.heap.size w) (.cells #[.int .i64 2, .int .i64 z, .bool h, .string (bsB l)] 24))
  generalize bsB l = t at *
  go_enter Tryd.func12, Tryd.ntmps12
  go_wp2
  go_ret
  exact ⟨rfl, HW.out⟩
set_option maxRecDepth 100000 in
set_option maxHeartbeats 4000000 in
theorem write_3 (z : Int) (h : Bool) (l : List UInt8) (w : World) : Calls Tryd.prog 12 #[.agg #[.int .i64 3, .int .i64 z, .bool h, .string (bsB l)]] w fun e w' => e = .returned (.string (bsB [49, 51, 51, 59, 67])) ∧ Below w.heap.size w w' := by
  have HW := Lib.hid (belA (Below.refl w.heap.size w) (.cells #[.int .i64 3, .int .i64 z, .bool h, .string (bsB l)] 24))
  generalize bsB l = t at *
  go_enter Tryd.func12, Tryd.ntmps12
  go_wp2
  go_ret
  exact ⟨rfl, HW.out⟩
set_option maxRecDepth 100000 in
set_option maxHeartbeats 4000000 in
theorem write_7 (z : Int) (h : Bool) (l : List UInt8) (w : World) : Calls Tryd.prog 12 #[.agg #[.int .i64 7, .int .i64 z, .bool h, .string (bsB l)]] w fun e w' => e = .returned (.string (bsB [49, 51, 51, 55, 59, 83, 101, 116, 77, 97, 114, 107])) ∧ Below w.heap.size w w' := by
  have HW := Lib.hid (belA (Below.refl w.heap.size w) (.cells #[.int .i64 7, .int .i64 z, .bool h, .string (bsB l)] 24))
  generalize bsB l = t at *
  go_enter Tryd.func12, Tryd.ntmps12
  go_wp2
  go_ret
  exact ⟨rfl, HW.out⟩
set_option maxRecDepth 100000 in
set_option maxHeartbeats 4000000 in
theorem write_4n (z : Int) (l : List UInt8) (w : World) : Calls Tryd.prog 12 #[.agg #[.int .i64 4, .int .i64 z, .bool false, .string (bsB l)]] w fun e w' => e = .returned (.string (bsB [49, 51, 51, 59, 68])) ∧ Below w.heap.size w w' := by
  have HW := Lib.hid (belA (Below.refl w.heap.size w) (.cells #[.int .i64 4, .int .i64 z, .bool false, .string (bsB l)] 24))
  generalize bsB l = t at *
  go_enter Tryd.func12, Tryd.ntmps12
  go_wp2
  go_ret
  exact ⟨rfl, HW.out⟩
set_option maxRecDepth 100000 in
set_option maxHeartbeats 4000000 in
theorem write_8 (z : Int) (h : Bool) (l : List UInt8) (hl : l.length ≤ 10000) (w : World) : Calls Tryd.prog 12 #[.agg #[.int .i64 8, .int .i64 z, .bool h, .string (bsB l)]] w fun e w' => e = .returned (.string (bsB ([50, 59] ++ l))) ∧ Below w.heap.size w w' := by
  have HW := Lib.hid (belA (Below.refl w.heap.size w) (.cells #[.int .i64 8, .int .i64 z, .bool h, .string (bsB l)] 24))
  have hs : (bsB l).size ≤ 10000 := by rw [bsB_size]; exact hl
  have HS : Hid ((⟨#[50, 59]⟩ : ByteArray) ++ bsB l = bsB ([50, 59] ++ l)) := Lib.hid (bsB_app [50, 59] l)
  generalize bsB ([50, 59] ++ l) = res at *
  generalize bsB l = t at *
  go_enter Tryd.func12, Tryd.ntmps12
  go_wp2
  go_ret
  exact ⟨by rw [← HS.out]; rfl, HW.out⟩
set_option maxRecDepth 100000 in
set_option maxHeartbeats 4000000 in
theorem write_5 (z : Int) (h : Bool) (l : List UInt8) (hl : l.length ≤ 10000) (w : World) : Calls Tryd.prog 12 #[.agg #[.int .i64 5, .int .i64 z, .bool h, .string (bsB l)]] w fun e w' => e = .returned (.string (bsB ([54, 51, 51, 59, 69, 59] ++ escL l))) ∧ Below w.heap.size w w' := by
  have HW := Lib.hid (belA (Below.refl w.heap.size w) (.cells #[.int .i64 5, .int .i64 z, .bool h, .string (bsB l)] 24))
  have hs : (bsB (escL l)).size ≤ 40000 := by rw [bsB_size]; have := escL_len l; omega
  have HS : Hid ((⟨#[54, 51, 51, 59, 69, 59]⟩ : ByteArray) ++ bsB (escL l) = bsB ([54, 51, 51, 59, 69, 59] ++ escL l)) := Lib.hid (bsB_app [54, 51, 51, 59, 69, 59] _)
  have HC := Lib.hid (fun W => escape_any l hl W)
  generalize bsB ([54, 51, 51, 59, 69, 59] ++ escL l) = res at *
  generalize bsB (escL l) = s at *
  generalize bsB l = t at *
  go_enter Tryd.func12, Tryd.ntmps12
  go_wp2_with (go_at_call 14; (with_reducible refine (HC.out _).mono ?_); rintro e w1 ⟨rfl, hb⟩; have HB1 := Lib.hid (bel0 HW.out hb); clear hb)
  go_ret
  exact ⟨by rw [← HS.out]; rfl, HB1.out⟩
set_option maxRecDepth 100000 in
set_option maxHeartbeats 4000000 in
theorem write_6 (z : Int) (h : Bool) (l : List UInt8) (hl : l.length ≤ 10000) (w : World) : Calls Tryd.prog 12 #[.agg #[.int .i64 6, .int .i64 z, .bool h, .string (bsB l)]] w fun e w' => e = .returned (.string (bsB ([54, 51, 51, 59, 80, 59, 67, 119, 100, 61] ++ escL l))) ∧ Below w.heap.size w w' := by
  have HW := Lib.hid (belA (Below.refl w.heap.size w) (.cells #[.int .i64 6, .int .i64 z, .bool h, .string (bsB l)] 24))
  have hs : (bsB (escL l)).size ≤ 40000 := by rw [bsB_size]; have := escL_len l; omega
  have HS : Hid ((⟨#[54, 51, 51, 59, 80, 59, 67, 119, 100, 61]⟩ : ByteArray) ++ bsB (escL l) = bsB ([54, 51, 51, 59, 80, 59, 67, 119, 100, 61] ++ escL l)) := Lib.hid (bsB_app [54, 51, 51, 59, 80, 59, 67, 119, 100, 61] _)
  have HC := Lib.hid (fun W => escape_any l hl W)
  generalize bsB ([54, 51, 51, 59, 80, 59, 67, 119, 100, 61] ++ escL l) = res at *
  generalize bsB (escL l) = s at *
  generalize bsB l = t at *
  go_enter Tryd.func12, Tryd.ntmps12
  go_wp2_with (go_at_call 14; (with_reducible refine (HC.out _).mono ?_); rintro e w1 ⟨rfl, hb⟩; have HB1 := Lib.hid (bel0 HW.out hb); clear hb)
  go_ret
  exact ⟨by rw [← HS.out]; rfl, HB1.out⟩
set_option maxRecDepth 100000 in
set_option maxHeartbeats 4000000 in
theorem write_o (k z : Int) (h : Bool) (l : List UInt8) (hk : k < 1 ∨ 8 < k) (w : World) : Calls Tryd.prog 12 #[.agg #[.int .i64 k, .int .i64 z, .bool h, .string (bsB l)]] w fun e w' => e = .returned (.string (bsB [])) ∧ Below w.heap.size w w' := by
  have HW := Lib.hid (belA (Below.refl w.heap.size w) (.cells #[.int .i64 k, .int .i64 z, .bool h, .string (bsB l)] 24))
  have q1 : (k == 1) = false := by simp; omega
  have q2 : (k == 2) = false := by simp; omega
  have q3 : (k == 3) = false := by simp; omega
  have q4 : (k == 4) = false := by simp; omega
  have q5 : (k == 5) = false := by simp; omega
  have q6 : (k == 6) = false := by simp; omega
  have q7 : (k == 7) = false := by simp; omega
  have q8 : (k == 8) = false := by simp; omega
  clear hk
  generalize bsB l = t at *
  go_enter Tryd.func12, Tryd.ntmps12
  go_wp2
  go_ret
  exact ⟨rfl, HW.out⟩
set_option maxRecDepth 100000 in
set_option maxHeartbeats 4000000 in
theorem refW_1 (z : Int) (h : Bool) (l : List UInt8) (w : World) : Calls Tryd.prog 13 #[.agg #[.int .i64 1, .int .i64 z, .bool h, .string (bsB l)]] w fun e w' => e = .returned (.string (bsB [49, 51, 51, 59, 65])) ∧ Below w.heap.size w w' := by
  have HW := Lib.hid (belA (Below.refl w.heap.size w) (.cells #[.int .i64 1, .int .i64 z, .bool h, .string (bsB l)] 24))
  have hx : (⟨#[65, 66, 67]⟩ : ByteArray).extract 0 1 = ⟨#[65]⟩ := by kernel_rfl
  generalize bsB l = t at *
  go_enter Tryd.func13, Tryd.ntmps13
  go_wp2
  go_ret
  exact ⟨by (try rw [hx]); rfl, HW.out⟩
set_option maxRecDepth 100000 in
set_option maxHeartbeats 4000000 in
theorem refW_2 (z : Int) (h : Bool) (l : List UInt8) (w : World) : Calls Tryd.prog 13 #[.agg #[.int .i64 2, .int .i64 z, .bool h, .string (bsB l)]] w fun e w' => e = .returned (.string (bsB [49, 51, 51, 59, 66])) ∧ Below w.heap.size w w' := by
  have HW := Lib.hid (belA (Below.refl w.heap.size w) (.cells #[.int .i64 2, .int .i64 z, .bool h, .string (bsB l)] 24))
  have hx : (⟨#[65, 66, 67]⟩ : ByteArray).extract 1 2 = ⟨#[66]⟩ := by kernel_rfl
  generalize bsB l = t at *
  go_enter Tryd.func13, Tryd.ntmps13
  go_wp2
  go_ret
  exact ⟨by (try rw [hx]); rfl, HW.out⟩
set_option maxRecDepth 100000 in
set_option maxHeartbeats 4000000 in
theorem refW_3 (z : Int) (h : Bool) (l : List UInt8) (w : World) : Calls Tryd.prog 13 #[.agg #[.int .i64 3, .int .i64 z, .bool h, .string (bsB l)]] w fun e w' => e = .returned (.string (bsB [49, 51, 51, 59, 67])) ∧ Below w.heap.size w w' := by
  have HW := Lib.hid (belA (Below.refl w.heap.size w) (.cells #[.int .i64 3, .int .i64 z, .bool h, .string (bsB l)] 24))
  have hx : (⟨#[65, 66, 67]⟩ : ByteArray).extract 2 3 = ⟨#[67]⟩ := by kernel_rfl
  generalize bsB l = t at *
  go_enter Tryd.func13, Tryd.ntmps13
  go_wp2
  go_ret
  exact ⟨by (try rw [hx]); rfl, HW.out⟩
set_option maxRecDepth 100000 in
set_option maxHeartbeats 4000000 in
theorem refW_7 (z : Int) (h : Bool) (l : List UInt8) (w : World) : Calls Tryd.prog 13 #[.agg #[.int .i64 7, .int .i64 z, .bool h, .string (bsB l)]] w fun e w' => e = .returned (.string (bsB [49, 51, 51, 55, 59, 83, 101, 116, 77, 97, 114, 107])) ∧ Below w.heap.size w w' := by
  have HW := Lib.hid (belA (Below.refl w.heap.size w) (.cells #[.int .i64 7, .int .i64 z, .bool h, .string (bsB l)] 24))
  generalize bsB l = t at *
  go_enter Tryd.func13, Tryd.ntmps13
  go_wp2
  go_ret
  exact ⟨rfl, HW.out⟩
set_option maxRecDepth 100000 in
set_option maxHeartbeats 4000000 in
theorem refW_4n (z : Int) (l : List UInt8) (w : World) : Calls Tryd.prog 13 #[.agg #[.int .i64 4, .int .i64 z, .bool false, .string (bsB l)]] w fun e w' => e = .returned (.string (bsB [49, 51, 51, 59, 68])) ∧ Below w.heap.size w w' := by
  have HW := Lib.hid (belA (Below.refl w.heap.size w) (.cells #[.int .i64 4, .int .i64 z, .bool false, .string (bsB l)] 24))
  generalize bsB l = t at *
  go_enter Tryd.func13, Tryd.ntmps13
  go_wp2
  go_ret
  exact ⟨rfl, HW.out⟩
set_option maxRecDepth 100000 in
set_option maxHeartbeats 4000000 in
theorem refW_8 (z : Int) (h : Bool) (l : List UInt8) (hl : l.length ≤ 10000) (w : World) : Calls Tryd.prog 13 #[.agg #[.int .i64 8, .int .i64 z, .bool h, .string (bsB l)]] w fun e w' => e = .returned (.string (bsB ([50, 59] ++ l))) ∧ Below w.heap.size w w' := by
  have HW := Lib.hid (belA (Below.refl w.heap.size w) (.cells #[.int .i64 8, .int .i64 z, .bool h, .string (bsB l)] 24))
  have hs : (bsB l).size ≤ 10000 := by rw [bsB_size]; exact hl
  have HS : Hid ((⟨#[50, 59]⟩ : ByteArray) ++ bsB l = bsB ([50, 59] ++ l)) := Lib.hid (bsB_app [50, 59] l)
  generalize bsB ([50, 59] ++ l) = res at *
  generalize bsB l = t at *
  go_enter Tryd.func13, Tryd.ntmps13
  go_wp2
  go_ret
  exact ⟨by rw [← HS.out]; rfl, HW.out⟩
set_option maxRecDepth 100000 in
set_option maxHeartbeats 4000000 in
theorem refW_5 (z : Int) (h : Bool) (l : List UInt8) (hl : l.length ≤ 10000) (w : World) : Calls Tryd.prog 13 #[.agg #[.int .i64 5, .int .i64 z, .bool h, .string (bsB l)]] w fun e w' => e = .returned (.string (bsB ([54, 51, 51, 59, 69, 59] ++ escL l))) ∧ Below w.heap.size w w' := by
  have HW := Lib.hid (belA (Below.refl w.heap.size w) (.cells #[.int .i64 5, .int .i64 z, .bool h, .string (bsB l)] 24))
  have hs : (bsB (escL l)).size ≤ 40000 := by rw [bsB_size]; have := escL_len l; omega
  have HS : Hid ((⟨#[54, 51, 51, 59, 69, 59]⟩ : ByteArray) ++ bsB (escL l) = bsB ([54, 51, 51, 59, 69, 59] ++ escL l)) := Lib.hid (bsB_app [54, 51, 51, 59, 69, 59] _)
  have HC := Lib.hid (fun W => refEscape_any l hl W)
  generalize bsB ([54, 51, 51, 59, 69, 59] ++ escL l) = res at *
  generalize bsB (escL l) = s at *
  generalize bsB l = t at *
  go_enter Tryd.func13, Tryd.ntmps13
  go_wp2_with (go_at_call 15; (with_reducible refine (HC.out _).mono ?_); rintro e w1 ⟨rfl, hb⟩; have HB1 := Lib.hid (bel0 HW.out hb); clear hb)
  go_ret
  exact ⟨by rw [← HS.out]; rfl, HB1.out⟩
set_option maxRecDepth 100000 in
set_option maxHeartbeats 4000000 in
theorem refW_6 (z : Int) (h : Bool) (l : List UInt8) (hl : l.length ≤ 10000) (w : World) : Calls Tryd.prog 13 #[.agg #[.int .i64 6, .int .i64 z, .bool h, .string (bsB l)]] w fun e w' => e = .returned (.string (bsB ([54, 51, 51, 59, 80, 59, 67, 119, 100, 61] ++ escL l))) ∧ Below w.heap.size w w' := by
  have HW := Lib.hid (belA (Below.refl w.heap.size w) (.cells #[.int .i64 6, .int .i64 z, .bool h, .string (bsB l)] 24))
  have hs : (bsB (escL l)).size ≤ 40000 := by rw [bsB_size]; have := escL_len l; omega
  have HS : Hid ((⟨#[54, 51, 51, 59, 80, 59, 67, 119, 100, 61]⟩ : ByteArray) ++ bsB (escL l) = bsB ([54, 51, 51, 59, 80, 59, 67, 119, 100, 61] ++ escL l)) := Lib.hid (bsB_app [54, 51, 51, 59, 80, 59, 67, 119, 100, 61] _)
  have HC := Lib.hid (fun W => refEscape_any l hl W)
  generalize bsB ([54, 51, 51, 59, 80, 59, 67, 119, 100, 61] ++ escL l) = res at *
  generalize bsB (escL l) = s at *
  generalize bsB l = t at *
  go_enter Tryd.func13, Tryd.ntmps13
  go_wp2_with (go_at_call 15; (with_reducible refine (HC.out _).mono ?_); rintro e w1 ⟨rfl, hb⟩; have HB1 := Lib.hid (bel0 HW.out hb); clear hb)
  go_ret
  exact ⟨by rw [← HS.out]; rfl, HB1.out⟩
set_option maxRecDepth 100000 in
set_option maxHeartbeats 4000000 in
theorem refW_o (k z : Int) (h : Bool) (l : List UInt8) (hk : k < 1 ∨ 8 < k) (w : World) : Calls Tryd.prog 13 #[.agg #[.int .i64 k, .int .i64 z, .bool h, .string (bsB l)]] w fun e w' => e = .returned (.string (bsB [])) ∧ Below w.heap.size w w' := by
  have HW := Lib.hid (belA (Below.refl w.heap.size w) (.cells #[.int .i64 k, .int .i64 z, .bool h, .string (bsB l)] 24))
  have q1 : (k == 1) = false := by simp; omega
  have q2 : (k == 2) = false := by simp; omega
  have q3 : (k == 3) = false := by simp; omega
  have q4 : (k == 4) = false := by simp; omega
  have q5 : (k == 5) = false := by simp; omega
  have q6 : (k == 6) = false := by simp; omega
  have q7 : (k == 7) = false := by simp; omega
  have q8 : (k == 8) = false := by simp; omega
  clear hk
  generalize bsB l = t at *
  go_enter Tryd.func13, Tryd.ntmps13
  go_wp2
  go_ret
  exact ⟨rfl, HW.out⟩
set_option maxRecDepth 100000 in
set_option maxHeartbeats 4000000 in
theorem write_4 (z : Int) (l : List UInt8) (h0 : -9223372036854775808 ≤ z) (h1 : z ≤ 9223372036854775807) (w : World) (hT : TI w) : Calls Tryd.prog 12 #[.agg #[.int .i64 4, .int .i64 z, .bool true, .string (bsB l)]] w fun e w' => e = .returned (.string (bsB ([49, 51, 51, 59, 68, 59] ++ Lib.itoa z))) ∧ Below w.heap.size w w' := by
  have HW := Lib.hid (belA (Below.refl w.heap.size w) (.cells #[.int .i64 4, .int .i64 z, .bool true, .string (bsB l)] 24))
  have HC := Lib.hid (itoa_any z h0 h1 _ (hT.below HW.out))
  have hs := itoa_short z h0 h1
  have HS : Hid ((⟨#[49, 51, 51, 59, 68, 59]⟩ : ByteArray) ++ bsB (Lib.itoa z) = bsB ([49, 51, 51, 59, 68, 59] ++ Lib.itoa z)) := Lib.hid (bsB_app [49, 51, 51, 59, 68, 59] _)
  clear hT
  generalize bsB ([49, 51, 51, 59, 68, 59] ++ Lib.itoa z) = res at *
  generalize bsB (Lib.itoa z) = s at *
  generalize bsB l = t at *
  go_enter Tryd.func12, Tryd.ntmps12
  go_wp2_with (go_at_call 29; (with_reducible refine (HC.out).mono ?_); rintro e w1 ⟨rfl, hb⟩; have HB1 := Lib.hid (bel0 HW.out hb); clear hb)
  go_ret
  exact ⟨by rw [← HS.out]; rfl, HB1.out⟩
set_option maxRecDepth 100000 in
set_option maxHeartbeats 4000000 in
theorem refW_4p (m : Nat) (l : List UInt8) (h1 : (m : Int) ≤ 9223372036854775807) (w : World) : Calls Tryd.prog 13 #[.agg #[.int .i64 4, .int .i64 (m : Int), .bool true, .string (bsB l)]] w fun e w' => e = .returned (.string (bsB ([49, 51, 51, 59, 68, 59] ++ Lib.itoa (m : Int)))) ∧ Below w.heap.size w w' := by
  have HW := Lib.hid (belA (Below.refl w.heap.size w) (.cells #[.int .i64 4, .int .i64 (m : Int), .bool true, .string (bsB l)] 24))
  have HC := Lib.hid (fun W => digitsM_any m (by omega) W)
  have hs := itoa_short (m : Int) (by omega) h1
  rw [itoa_natM] at hs ⊢
  have HS : Hid ((⟨#[49, 51, 51, 59, 68, 59]⟩ : ByteArray) ++ bsB (Lib.decDigits m) = bsB ([49, 51, 51, 59, 68, 59] ++ Lib.decDigits m)) := Lib.hid (bsB_app [49, 51, 51, 59, 68, 59] _)
  have hd : decide ((0 : Int) ≤ m) = true := decide_eq_true (by omega)
  have hd2 : (0 : Int) ≤ m := by omega
  generalize bsB ([49, 51, 51, 59, 68, 59] ++ Lib.decDigits m) = res at *
  generalize bsB (Lib.decDigits m) = s at *
  generalize bsB l = t at *
  go_enter Tryd.func13, Tryd.ntmps13
  go_wp2_with (go_at_call 30; (with_reducible refine (HC.out _).mono ?_); rintro e w1 ⟨rfl, hb⟩; have HB1 := Lib.hid (bel0 HW.out hb); clear hb)
  go_ret
  exact ⟨by rw [← HS.out]; rfl, HB1.out⟩
set_option maxRecDepth 100000 in
set_option maxHeartbeats 4000000 in
theorem refW_4m (m : Nat) (l : List UInt8) (h10 : 10 ≤ m) (h1 : (m : Int) ≤ 9223372036854775808) (w : World) : Calls Tryd.prog 13 #[.agg #[.int .i64 4, .int .i64 (-(m : Int)), .bool true, .string (bsB l)]] w fun e w' => e = .returned (.string (bsB ([49, 51, 51, 59, 68, 59] ++ Lib.itoa (-(m : Int))))) ∧ Below w.heap.size w w' := by
  have HW := Lib.hid (belA (Below.refl w.heap.size w) (.cells #[.int .i64 4, .int .i64 (-(m : Int)), .bool true, .string (bsB l)] 24))
  have HT : Hid (Lib.itoa (-(m : Int)) = 45 :: ((if m ≥ 10 then Lib.decDigits (m / 10) else []) ++ Lib.decDigits (m % 10))) := Lib.hid (by
    rw [Lib.itoa, if_pos (by omega), ← neg_text, Int.natAbs_neg, Int.natAbs_natCast])
  have HC : Hid (∀ W, Calls Tryd.prog 30 #[.int .i64 ((m : Int) / 10)] W fun e w' => e = .returned (.string (bsB (Lib.decDigits (m / 10)))) ∧ Below W.heap.size W w') := Lib.hid (fun W => digitsM_any (m / 10) (by omega) W)
  have HD : Hid (∀ W, Calls Tryd.prog 30 #[.int .i64 ((m : Int) % 10)] W fun e w' => e = .returned (.string (bsB (Lib.decDigits (m % 10)))) ∧ Below W.heap.size W w') := Lib.hid (fun W => digitsM_any (m % 10) (by omega) W)
  have hs1 := itoa_short ((m / 10 : Nat) : Int) (by omega) (by omega)
  rw [itoa_natM] at hs1
  have hs2 := itoa_short ((m % 10 : Nat) : Int) (by omega) (by omega)
  rw [itoa_natM] at hs2
  have hd : decide ((0 : Int) ≤ -(m : Int)) = false := decide_eq_false (by omega)
  have hd2 : decide (-(m : Int) ≤ -10) = true := decide_eq_true (by omega)
  have hd3 : ¬ (0 : Int) ≤ -(m : Int) := by omega
  have HS : Hid ((⟨#[49, 51, 51, 59, 68, 59, 45]⟩ : ByteArray) ++ bsB (Lib.decDigits (m / 10)) ++ bsB (Lib.decDigits (m % 10)) = bsB ([49, 51, 51, 59, 68, 59] ++ Lib.itoa (-(m : Int)))) := Lib.hid (by
    rw [HT.out, if_pos (by omega)]
    apply ByteArray.ext
    simp [bsB])
  clear HT
  generalize bsB ([49, 51, 51, 59, 68, 59] ++ Lib.itoa (-(m : Int))) = res at *
  generalize bsB (Lib.decDigits (m / 10)) = s1 at *
  generalize bsB (Lib.decDigits (m % 10)) = s2 at *
  generalize bsB l = t at *
  go_enter Tryd.func13, Tryd.ntmps13
  go_wp2_with (first
    | (go_at_call 30; (with_reducible refine (HC.out _).mono ?_); rintro e w1 ⟨rfl, hb⟩; have HB1 := Lib.hid (bel0 HW.out hb); obtain ⟨hc, hf⟩ := bcell hb; have r1 : w1.cell? ⟨w.heap.size, 1, none⟩ = some (.int .i64 (-(m : Int))) := (hc _ _ (by simp <;> omega)).trans (by simp); clear hb hc hf)
    | (go_at_call 30; (with_reducible refine (HD.out _).mono ?_); rintro e w2 ⟨rfl, hb⟩; have HB2 := Lib.hid (bel0 HB1.out hb); clear hb))
  go_ret
  exact ⟨by rw [← HS.out]; rfl, HB2.out⟩
set_option maxRecDepth 100000 in
set_option maxHeartbeats 4000000 in
theorem refW_4l (m : Nat) (l : List UInt8) (hm : 0 < m) (h10 : m < 10) (w : World) : Calls Tryd.prog 13 #[.agg #[.int .i64 4, .int .i64 (-(m : Int)), .bool true, .string (bsB l)]] w fun e w' => e = .returned (.string (bsB ([49, 51, 51, 59, 68, 59] ++ Lib.itoa (-(m : Int))))) ∧ Below w.heap.size w w' := by
  have HW := Lib.hid (belA (Below.refl w.heap.size w) (.cells #[.int .i64 4, .int .i64 (-(m : Int)), .bool true, .string (bsB l)] 24))
  have HT : Hid (Lib.itoa (-(m : Int)) = 45 :: ((if m ≥ 10 then Lib.decDigits (m / 10) else []) ++ Lib.decDigits (m % 10))) := Lib.hid (by
    rw [Lib.itoa, if_pos (by omega), ← neg_text, Int.natAbs_neg, Int.natAbs_natCast])
  have HC : Hid (∀ W, Calls Tryd.prog 30 #[.int .i64 ((m : Int) / 10)] W fun e w' => e = .returned (.string (bsB (Lib.decDigits (m / 10)))) ∧ Below W.heap.size W w') := Lib.hid (fun W => digitsM_any (m / 10) (by omega) W)
  have HD : Hid (∀ W, Calls Tryd.prog 30 #[.int .i64 ((m : Int) % 10)] W fun e w' => e = .returned (.string (bsB (Lib.decDigits (m % 10)))) ∧ Below W.heap.size W w') := Lib.hid (fun W => digitsM_any (m % 10) (by omega) W)
  have hs1 := itoa_short ((m / 10 : Nat) : Int) (by omega) (by omega)
  rw [itoa_natM] at hs1
  have hs2 := itoa_short ((m % 10 : Nat) : Int) (by omega) (by omega)
  rw [itoa_natM] at hs2
  have hd : decide ((0 : Int) ≤ -(m : Int)) = false := decide_eq_false (by omega)
  have hd2 : decide (-(m : Int) ≤ -10) = false := decide_eq_false (by omega)
  have hd3 : ¬ (0 : Int) ≤ -(m : Int) := by omega
  have HS : Hid ((⟨#[49, 51, 51, 59, 68, 59, 45]⟩ : ByteArray) ++ (⟨#[]⟩ : ByteArray) ++ bsB (Lib.decDigits (m % 10)) = bsB ([49, 51, 51, 59, 68, 59] ++ Lib.itoa (-(m : Int)))) := Lib.hid (by
    rw [HT.out, if_neg (by omega)]
    apply ByteArray.ext
    simp [bsB])
  clear HT
  generalize bsB ([49, 51, 51, 59, 68, 59] ++ Lib.itoa (-(m : Int))) = res at *
  generalize bsB (Lib.decDigits (m / 10)) = s1 at *
  generalize bsB (Lib.decDigits (m % 10)) = s2 at *
  generalize bsB l = t at *
  go_enter Tryd.func13, Tryd.ntmps13
  go_wp2_with (go_at_call 30; (with_reducible refine (HD.out _).mono ?_); rintro e w2 ⟨rfl, hb⟩; have HB2 := Lib.hid (bel0 HW.out hb); clear hb)
  go_ret
  exact ⟨by rw [← HS.out]; rfl, HB2.out⟩
end Go.Proofs.YtkkhlmilcdlfoaaDoor
