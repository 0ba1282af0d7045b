/- The walk of a mode's text; strconv.Itoa's contract in this house's words. -/
import Derived.Test.YtolhdmlphmnpbaaDoorId
import Derived.Test.YtolhdmlphmnpbaaDoorIs
import Derived.Lib.AppendIntMem
import Derived.Lib.ItoaLen
import Derived.Laws.IdiomStrings
namespace Go.Proofs.YtolhdmlphmnpbaaDoor
open Go.RowKit

def bsB (l : List UInt8) : ByteArray := ⟨l.toArray⟩
theorem bsB_app (l m : List UInt8) : bsB l ++ bsB m = bsB (l ++ m) := by
  apply ByteArray.ext
  simp [bsB]
theorem bsB_size (l : List UInt8) : (bsB l).size = l.length := by simp [bsB, ByteArray.size]
theorem bsB_inj {l m : List UInt8} : bsB l = bsB m ↔ l = m := by
  refine ⟨fun h => ?_, fun h => by rw [h]⟩
  have := congrArg (fun b => b.data.toList) h
  simpa [bsB] using this
/-- Itoa's table is there. -/
def TI (w : World) : Prop := Lib.TabIs Tryd.prog w "internal/strconv.uint64pow10" .u64 Lib.pow10Tab
theorem TI.below {w w' : World} (h : TI w) (hb : Below w.heap.size w w') : TI w' := Lib.tabBelow_of_tabIs h w' hb
theorem itoa_any (n : Int) (h0 : -9223372036854775808 ≤ n) (h1 : n ≤ 9223372036854775807) (w : World) (hT : TI w) :
    Calls Tryd.prog 24 #[.int .i64 n] w fun e w' => e = .returned (.string (bsB (Lib.itoa n))) ∧ Below w.heap.size w w' :=
  (Tryd.strconv_Itoa n h0 h1 w hT).mono fun _ _ ⟨h, k, os, e⟩ => ⟨h, e ▸ Lib.below_grow _ w (Nat.le_refl _) k os⟩
/-- A mode's text. -/
def textM (p : Bool) (n : Int) : List UInt8 := (if p then [63] else []) ++ Lib.itoa n
theorem itoa_short (n : Int) (h0 : -9223372036854775808 ≤ n) (h1 : n ≤ 9223372036854775807) : (bsB (Lib.itoa n)).size ≤ 21 := by
  rw [bsB_size]
  exact Lib.itoa_length_le n h0 h1
set_option maxRecDepth 100000 in
set_option maxHeartbeats 4000000 in
theorem text_any (p : Bool) (n : Int) (h0 : -9223372036854775808 ≤ n) (h1 : n ≤ 9223372036854775807) (w : World) (hT : TI w) :
    Calls Tryd.prog 23 #[.agg #[.bool p, .int .i64 n]] w fun e w' => e = .returned (.string (bsB (textM p n))) ∧ Below w.heap.size w w' := by
  have HW := Lib.hid (belA (Below.refl w.heap.size w) (.cells #[.bool p, .int .i64 n] 50))
  have HC := Lib.hid (itoa_any n h0 h1 _ (hT.below HW.out))
  have hs := itoa_short n h0 h1
  have HS : Hid ((⟨#[63]⟩ : ByteArray) ++ bsB (Lib.itoa n) = bsB (textM true n)) := Lib.hid (bsB_app [63] _)
  have HS2 : Hid (bsB (Lib.itoa n) = bsB (textM false n)) := Lib.hid rfl
  clear hT
  generalize bsB (Lib.itoa n) = s at *
  cases p with
  | true =>
    go_enter Tryd.func23, Tryd.ntmps23
    go_wp2_with (go_at_call 24; (with_reducible refine (HC.out).mono ?_); rintro e w1 ⟨rfl, hb⟩; have HB1 := Lib.hid (bel0 HW.out hb); clear hb)
    go_ret
    exact ⟨by rw [← HS.out]; rfl, HB1.out⟩
  | false =>
    go_enter Tryd.func23, Tryd.ntmps23
    go_wp2_with (go_at_call 24; (with_reducible refine (HC.out).mono ?_); rintro e w1 ⟨rfl, hb⟩; have HB1 := Lib.hid (bel0 HW.out hb); clear hb)
    go_ret
    exact ⟨by rw [← HS2.out]; rfl, HB1.out⟩
end Go.Proofs.YtolhdmlphmnpbaaDoor
