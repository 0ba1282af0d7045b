/- The document's examples; the laws of pct. -/
import Derived.Test.YthoadaocbkbefaaDoorXj
namespace Go.Proofs.YthoadaocbkbefaaDoor
open Go.RowKit

def exA : List UInt8 := [102, 105, 108, 101, 58, 47, 47, 104, 47, 97, 37, 50, 48, 98]
theorem exA_v : fileV exA = .tuple #[.string (bsB [104]), .string (bsB [47, 97, 32, 98]), .int .i64 0] := by
  unfold fileV
  rw [show fileL exA = some ([104], [47, 97, 32, 98]) by
    unfold fileL
    rw [if_pos (by decide), show (exA.drop 7).idxOf? 47 = some 1 from rfl]
    show some ([104], takeL [47, 97, 37, 50, 48, 98]) = _
    rw [takeL_cons, show pct1 [47, 97, 37, 50, 48, 98] = none by decide, takeL_cons, show pct1 [97, 37, 50, 48, 98] = none by decide, takeL_cons, show pct1 [37, 50, 48, 98] = some 32 by decide]
    show some ([104], 47 :: 97 :: 32 :: takeL [98]) = _
    rw [takeL_cons, show pct1 [98] = none by decide, takeL_nil]]
set_option maxRecDepth 100000 in
set_option maxHeartbeats 2000000 in
theorem awake_any (w : World) (hM : MT w) : Calls Tryd.prog 8 #[] w fun e w' => e = .returned (.bool true) ∧ Below w.heap.size w w' := by
  have HF := Lib.hid (file_any exA (by decide) w hM)
  rw [exA_v] at HF
  change Hid (Calls Tryd.prog 14 #[.string ⟨#[102, 105, 108, 101, 58, 47, 47, 104, 47, 97, 37, 50, 48, 98]⟩] w fun e w' => e = .returned (.tuple #[.string (bsB [104]), .string (bsB [47, 97, 32, 98]), .int .i64 0]) ∧ Below w.heap.size w w') at HF
  have HL : Hid (∀ W, Below w.heap.size w W → Calls Tryd.prog 9 #[.string ⟨#[97, 32, 98, 37]⟩] W fun e w' => e = .returned (.string ⟨#[97, 37, 50, 48, 98, 37, 50, 53]⟩) ∧ Below W.heap.size W w') := Lib.hid fun W hW => by
    have h := lay_any [97, 32, 98, 37] (by decide) W (hM.ev.past hW)
    rw [show layL [97, 32, 98, 37] = [97, 37, 50, 48, 98, 37, 50, 53] by decide] at h
    exact h
  clear hM
  have e1 : (bsB [104]).toList = [104] := bs_toList _
  have e2 : (bsB [47, 97, 32, 98]).toList = [47, 97, 32, 98] := bs_toList _
  generalize bsB [104] = s1 at *
  generalize bsB [47, 97, 32, 98] = s2 at *
  go_enter Tryd.func8, Tryd.ntmps8
  go_wp2_with (first
    | (go_at_call 14; (with_reducible refine (HF.out).mono ?_); rintro e w1 ⟨rfl, hb⟩; have HB1 := Lib.hid hb; clear hb)
    | (go_at_call 9; (with_reducible refine (HL.out _ HB1.out).mono ?_); rintro e w2 ⟨rfl, hb⟩; have HB2 := Lib.hid (bel0 HB1.out hb); clear hb))
  go_ret
  exact ⟨rfl, HB2.out⟩
end Go.Proofs.YthoadaocbkbefaaDoor
