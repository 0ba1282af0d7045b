/- The law OscEscapes. -/
import Derived.Test.YtkkhlmilcdlfoaaDoorSb
import Derived.Test.YtkkhlmilcdlfoaaDoorRu
import Derived.Test.YtkkhlmilcdlfoaaDoorRl
namespace Go.Proofs.YtkkhlmilcdlfoaaDoor
open Go.RowKit

set_option maxRecDepth 100000 in
set_option maxHeartbeats 4000000 in
theorem oscEscapes_law (l : List UInt8) (hL : l.length ≤ 9223372036854775807) (w : World) (hO : OT w) : Calls Tryd.prog 6 #[.string (bsB l)] w fun e w' => e = .returned (.bool true) ∧ Below w.heap.size w w' := by
  have HA := Lib.hid fun (W : World) (hW : Below w.heap.size w W) => awake_any W (hO.past hW)
  have HBc : Hid (Below w.heap.size w w) := Lib.hid (Below.refl _ _)
  by_cases h3 : 400 < l.length
  · have hs : (400 : Int) < (bsB l).size := by rw [bsB_size]; omega
    clear h3
    generalize bsB l = t at *
    go_enter Tryd.func6, Tryd.ntmps6
    go_wp2_with (first
      | (go_at_call 9; (with_reducible refine (HA.out _ HBc.out).mono ?_); rintro e wx ⟨rfl, hb⟩; have HBc := Lib.hid (bel0 HBc.out hb); clear hb))
    go_ret
    exact ⟨rfl, HBc.out⟩
  have hs : ((bsB l).size : Int) ≤ 400 := by rw [bsB_size]; omega
  have hel := escL_len l
  have HC : Hid (∀ W, Calls Tryd.prog 14 #[.string (bsB l)] W fun e w' => e = .returned (.string (bsB (escL l))) ∧ Below W.heap.size W w') := Lib.hid fun W => escape_any l (by omega) W
  have HR : Hid (∀ W, Calls Tryd.prog 15 #[.string (bsB l)] W fun e w' => e = .returned (.string (bsB (escL l))) ∧ Below W.heap.size W w') := Lib.hid fun W => refEscape_any l (by omega) W
  have HU1 : Hid (∀ W, Below w.heap.size w W → Calls Tryd.prog 16 #[.string (bsB (escL l))] W fun e w' => e = .returned (.string (bsB l)) ∧ Below W.heap.size W w') := Lib.hid fun W hW => by
    have h := unescape_any (escL l) (by omega) W (hO.past hW).1.1
    rwa [unesc_esc] at h
  have HU2 : Hid (∀ W, Below w.heap.size w W → Calls Tryd.prog 16 #[.string (bsB l)] W fun e w' => e = .returned (.string (bsB (unescL l))) ∧ Below W.heap.size W w') := Lib.hid fun W hW => unescape_any l (by omega) W (hO.past hW).1.1
  have HU3 : Hid (∀ W, Calls Tryd.prog 17 #[.string (bsB l)] W fun e w' => e = .returned (.string (bsB (unescL l))) ∧ Below W.heap.size W w') := Lib.hid fun W => refUnescape_any l (by omega) W
  have hsz : ((bsB (escL l)).size : Int) = (escL l).length := by rw [bsB_size]
  have HI := Lib.hid (idx_bs (escL l))
  have HF := Lib.hid (escL_fine l)
  have hle : (escL l).length ≤ 1600 := by omega
  clear h3 hel
  generalize escL l = T at *
  generalize bsB T = t at *
  generalize bsB (unescL l) = u at *
  generalize bsB l = s at *
  go_enter Tryd.func6, Tryd.ntmps6
  go_wp2_with (first
    | (go_at_call 14; (with_reducible refine (HC.out _).mono ?_); rintro e wx ⟨rfl, hb⟩; have HBc := Lib.hid (bel0 HBc.out hb); clear hb))
  go_loopw [4] (fun q wr => ∃ k : Nat, q = .int .i64 k ∧ k ≤ T.length ∧ Hid (Below w.heap.size w wr)) (fun q _ => T.length - (intOf q).toNat)
  case atStart => exact ⟨0, rfl, Nat.zero_le _, HBc⟩
  case round =>
    obtain ⟨k, rfl, hk, HB⟩ := hrel
    clear HBc
    by_cases hlt : k < T.length
    · have hix := HI.out k _ (List.getElem?_eq_getElem hlt)
      have hf := HF.out _ (List.getElem_mem hlt)
      generalize T[k]'hlt = c at *
      have hcs : ¬ (c.toNat ≤ 32) ∧ ¬ (c.toNat = 59) := by simpa [numB] using hf
      obtain ⟨hcs1, hcs2⟩ := hcs
      have hb1 : decide ((c.toNat : Int) ≤ 32) = false := by simp; omega
      have hb3 : (32 : Int) < c.toNat := by omega
      have hb2 : ((c.toNat : Int) == 59) = false := by simp; omega
      have hki : (k : Int) < T.length := by omega
      clear hf hcs1 hcs2
      generalize c.toNat = n at *
      generalize T.length = m at *
      go_wp2
      go_roundw
      case rel => exact ⟨k + 1, by go_num, hlt, HB⟩
      case measure => simp [intOf]; omega
    · obtain rfl : k = T.length := by omega
      go_wp2_with (first
        | (go_at_call 15; (with_reducible refine (HR.out _).mono ?_); rintro e wx ⟨rfl, hb⟩; have HB := Lib.hid (bel0 HB.out hb); clear hb)
        | (go_at_call 16; (with_reducible refine (HU1.out _ HB.out).mono ?_); rintro e wx ⟨rfl, hb⟩; have HB := Lib.hid (bel0 HB.out hb); clear hb)
        | (go_at_call 16; (with_reducible refine (HU2.out _ HB.out).mono ?_); rintro e wx ⟨rfl, hb⟩; have HB := Lib.hid (bel0 HB.out hb); clear hb)
        | (go_at_call 17; (with_reducible refine (HU3.out _).mono ?_); rintro e wx ⟨rfl, hb⟩; have HB := Lib.hid (bel0 HB.out hb); clear hb)
        | (go_at_call 9; (with_reducible refine (HA.out _ HB.out).mono ?_); rintro e wx ⟨rfl, hb⟩; have HB := Lib.hid (bel0 HB.out hb); clear hb))
      go_ret
      exact ⟨rfl, HB.out⟩
end Go.Proofs.YtkkhlmilcdlfoaaDoor
