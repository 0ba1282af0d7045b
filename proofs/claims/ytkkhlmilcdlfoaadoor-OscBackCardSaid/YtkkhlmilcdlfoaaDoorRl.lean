/- The document's examples. -/
import Derived.Test.YtkkhlmilcdlfoaaDoorRk
namespace Go.Proofs.YtkkhlmilcdlfoaaDoor
open Go.RowKit Go.Shelf

def exA : List UInt8 := [49, 51, 51, 59, 68, 59, 49]
def exB : List UInt8 := [54, 51, 51, 59, 69, 59, 97, 92, 120, 51, 98, 98]
theorem exA_v : readV exA = sgV 4 1 true ⟨#[]⟩ := by
  unfold readV
  rw [if_pos (.inl (by decide))]
  unfold shellV
  rw [if_neg (by decide), if_neg (by decide), if_neg (by decide), if_pos (by decide)]
  unfold doneV
  rw [show codeP (third exA) = (1, true) by decide]
theorem exB_v : readV exB = sgV 5 0 false (bsB [97, 59, 98]) := by
  unfold readV
  rw [if_pos (.inr (by decide))]
  unfold shellV
  rw [if_neg (by decide), if_neg (by decide), if_neg (by decide), if_neg (by decide), if_pos (by decide)]
  unfold toldV
  rw [if_pos (by decide)]
  rw [show third exB = [97, 92, 120, 51, 98, 98] by decide]
  rw [unescL_cons, show esc1 97 [92, 120, 51, 98, 98] = (97, 1) by decide]
  show sgV 5 0 false (bsB (cut256 (97 :: unescL [92, 120, 51, 98, 98]))) = _
  rw [unescL_cons, show esc1 92 [120, 51, 98, 98] = (59, 4) by decide]
  show sgV 5 0 false (bsB (cut256 (97 :: 59 :: unescL [98]))) = _
  rw [unescL_cons, show esc1 98 [] = (98, 1) by decide]
  show sgV 5 0 false (bsB (cut256 (97 :: 59 :: 98 :: unescL []))) = _
  rw [unescL_nil]
  rfl
set_option maxRecDepth 100000 in
set_option maxHeartbeats 2000000 in
theorem awake_any (w : World) (hO : OT w) : Calls Tryd.prog 9 #[] w fun e w' => e = .returned (.bool true) ∧ Below w.heap.size w w' := by
  have HA := Lib.hid (read_any exA (by decide) w hO)
  rw [exA_v] at HA
  change Hid (Calls Tryd.prog 10 #[.string ⟨#[49, 51, 51, 59, 68, 59, 49]⟩] w fun e w' => e = .returned (.agg #[.int .i64 4, .int .i64 1, .bool true, .string ⟨#[]⟩]) ∧ Below w.heap.size w w') at HA
  have HB : Hid (∀ W, Below w.heap.size w W → Calls Tryd.prog 10 #[.string ⟨#[54, 51, 51, 59, 69, 59, 97, 92, 120, 51, 98, 98]⟩] W fun e w' => e = .returned (.agg #[.int .i64 5, .int .i64 0, .bool false, .string ⟨#[97, 59, 98]⟩]) ∧ Below W.heap.size W w') := Lib.hid fun W hW => by
    have h := read_any exB (by decide) W (hO.past hW)
    rw [exB_v] at h
    exact h
  clear hO
  go_enter Tryd.func9, Tryd.ntmps9
  go_wp2_with (first
    | (go_at_call 10; (with_reducible refine (HA.out).mono ?_); rintro e w1 ⟨rfl, hb⟩; have HB1 := Lib.hid hb; clear hb)
    | (go_at_call 10; (with_reducible refine (HB.out _ HB1.out).mono ?_); rintro e w2 ⟨rfl, hb⟩; have HB2 := Lib.hid (bel0 HB1.out hb); clear hb))
  go_ret
  exact ⟨rfl, HB2.out⟩
end Go.Proofs.YtkkhlmilcdlfoaaDoor
