/- The laws of pct. Written by mkxl.py. -/
import Derived.Test.YthoadaocbkbefaaDoorXk
namespace Go.Proofs.YthoadaocbkbefaaDoor
open Go.RowKit

set_option maxRecDepth 100000 in
set_option maxHeartbeats 4000000 in
theorem pctLays_law (l : List UInt8) (hL : l.length ≤ 9223372036854775807) (w : World) (hM : MT w) : Calls Tryd.prog 3 #[.string (bsB l)] w fun e w' => e = .returned (.bool true) ∧ Below w.heap.size w w' := by
  have HA := Lib.hid fun (W : World) (hW : Below w.heap.size w W) => awake_any W (hM.past hW)
  have HBc : Hid (Below w.heap.size w w) := Lib.hid (Below.refl _ _)
  by_cases h3 : 300 < l.length
  · have hs : (300 : Int) < (bsB l).size := by rw [bsB_size]; omega
    clear h3
    generalize bsB l = t at *
    go_enter Tryd.func3, Tryd.ntmps3
    go_wp2_with (first
      | (go_at_call 8; (with_reducible refine (HA.out _ HBc.out).mono ?_); rintro e wx ⟨rfl, hb⟩; have HBc := Lib.hid (bel0 HBc.out hb); clear hb))
    go_ret
    exact ⟨rfl, HBc.out⟩
  have hs : ((bsB l).size : Int) ≤ 300 := by rw [bsB_size]; omega
  have hll := layL_len l
  have HLY : Hid (∀ W, Below w.heap.size w W → Calls Tryd.prog 9 #[.string (bsB l)] W fun e w' => e = .returned (.string (bsB (layL l))) ∧ Below W.heap.size W w') := Lib.hid fun W hW => lay_any l (by omega) W (hM.ev.past hW)
  have HRL : Hid (∀ W, Below w.heap.size w W → Calls Tryd.prog 11 #[.string (bsB l)] W fun e w' => e = .returned (.string (bsB (layL l))) ∧ Below W.heap.size W w') := Lib.hid fun W hW => refLay_any l (by omega) W
  have HST : Hid (∀ W, Below w.heap.size w W → Calls Tryd.prog 10 #[.string (bsB (layL l))] W fun e w' => e = .returned (.tuple #[.string (bsB l), .bool true]) ∧ Below W.heap.size W w') := Lib.hid fun W hW => by
    have h := strict_any (layL l) (by omega) W (hM.ev.past hW)
    unfold stV at h
    rw [if_pos (strict_lay l), take_lay0] at h
    exact h
  have HTK : Hid (∀ W, Below w.heap.size w W → Calls Tryd.prog 12 #[.string (bsB (layL l))] W fun e w' => e = .returned (.string (bsB l)) ∧ Below W.heap.size W w') := Lib.hid fun W hW => by
    have h := take_any (layL l) (by omega) W (hM.ev.past hW)
    rwa [take_lay0] at h
  clear h3 hll
  generalize bsB (layL l) = t at *
  generalize bsB l = s at *
  go_enter Tryd.func3, Tryd.ntmps3
  go_wp2_with (first
    | (go_at_call 9; (with_reducible refine (HLY.out _ HBc.out).mono ?_); rintro e wx ⟨rfl, hb⟩; have HBc := Lib.hid (bel0 HBc.out hb); clear hb)
    | (go_at_call 11; (with_reducible refine (HRL.out _ HBc.out).mono ?_); rintro e wx ⟨rfl, hb⟩; have HBc := Lib.hid (bel0 HBc.out hb); clear hb)
    | (go_at_call 10; (with_reducible refine (HST.out _ HBc.out).mono ?_); rintro e wx ⟨rfl, hb⟩; have HBc := Lib.hid (bel0 HBc.out hb); clear hb)
    | (go_at_call 12; (with_reducible refine (HTK.out _ HBc.out).mono ?_); rintro e wx ⟨rfl, hb⟩; have HBc := Lib.hid (bel0 HBc.out hb); clear hb)
    | (go_at_call 8; (with_reducible refine (HA.out _ HBc.out).mono ?_); rintro e wx ⟨rfl, hb⟩; have HBc := Lib.hid (bel0 HBc.out hb); clear hb))
  go_ret
  exact ⟨rfl, HBc.out⟩
set_option maxRecDepth 100000 in
set_option maxHeartbeats 4000000 in
theorem pctTakes_law (l : List UInt8) (hL : l.length ≤ 9223372036854775807) (w : World) (hM : MT w) : Calls Tryd.prog 4 #[.string (bsB l)] w fun e w' => e = .returned (.bool true) ∧ Below w.heap.size w w' := by
  have HA := Lib.hid fun (W : World) (hW : Below w.heap.size w W) => awake_any W (hM.past hW)
  have HBc : Hid (Below w.heap.size w w) := Lib.hid (Below.refl _ _)
  by_cases h3 : 300 < l.length
  · have hs : (300 : Int) < (bsB l).size := by rw [bsB_size]; omega
    clear h3
    generalize bsB l = t at *
    go_enter Tryd.func4, Tryd.ntmps4
    go_wp2_with (first
      | (go_at_call 8; (with_reducible refine (HA.out _ HBc.out).mono ?_); rintro e wx ⟨rfl, hb⟩; have HBc := Lib.hid (bel0 HBc.out hb); clear hb))
    go_ret
    exact ⟨rfl, HBc.out⟩
  have hs : ((bsB l).size : Int) ≤ 300 := by rw [bsB_size]; omega
  have HRT : Hid (∀ W, Below w.heap.size w W → Calls Tryd.prog 13 #[.string (bsB l)] W fun e w' => e = .returned (.tuple #[.string (bsB (takeL l)), .bool (strictL l)]) ∧ Below W.heap.size W w') := Lib.hid fun W hW => by
    have h := refTake_any l (by omega) W
    rwa [all_strict l.length l (Nat.le_refl _)] at h
  have HTK : Hid (∀ W, Below w.heap.size w W → Calls Tryd.prog 12 #[.string (bsB l)] W fun e w' => e = .returned (.string (bsB (takeL l))) ∧ Below W.heap.size W w') := Lib.hid fun W hW => take_any l (by omega) W (hM.ev.past hW)
  have HSV : Hid (∀ W, Below w.heap.size w W → Calls Tryd.prog 10 #[.string (bsB l)] W fun e w' => e = .returned (stV l) ∧ Below W.heap.size W w') := Lib.hid fun W hW => strict_any l (by omega) W (hM.ev.past hW)
  cases hst : strictL l with
  | true =>
    rw [hst] at HRT
    rw [show stV l = .tuple #[.string (bsB (takeL l)), .bool true] by unfold stV; rw [hst]; rfl] at HSV
    clear h3 hst
    generalize bsB (takeL l) = t at *
    generalize bsB l = s at *
    go_enter Tryd.func4, Tryd.ntmps4
    go_wp2_with (first
      | (go_at_call 13; (with_reducible refine (HRT.out _ HBc.out).mono ?_); rintro e wx ⟨rfl, hb⟩; have HBc := Lib.hid (bel0 HBc.out hb); clear hb)
      | (go_at_call 10; (with_reducible refine (HSV.out _ HBc.out).mono ?_); rintro e wx ⟨rfl, hb⟩; have HBc := Lib.hid (bel0 HBc.out hb); clear hb)
      | (go_at_call 12; (with_reducible refine (HTK.out _ HBc.out).mono ?_); rintro e wx ⟨rfl, hb⟩; have HBc := Lib.hid (bel0 HBc.out hb); clear hb)
      | (go_at_call 8; (with_reducible refine (HA.out _ HBc.out).mono ?_); rintro e wx ⟨rfl, hb⟩; have HBc := Lib.hid (bel0 HBc.out hb); clear hb))
    go_ret
    exact ⟨rfl, HBc.out⟩
  | false =>
    rw [hst] at HRT
    rw [show stV l = .tuple #[.string ⟨#[]⟩, .bool false] by unfold stV; rw [hst]; rfl] at HSV
    clear h3 hst
    generalize bsB (takeL l) = t at *
    generalize bsB l = s at *
    go_enter Tryd.func4, Tryd.ntmps4
    go_wp2_with (first
      | (go_at_call 13; (with_reducible refine (HRT.out _ HBc.out).mono ?_); rintro e wx ⟨rfl, hb⟩; have HBc := Lib.hid (bel0 HBc.out hb); clear hb)
      | (go_at_call 10; (with_reducible refine (HSV.out _ HBc.out).mono ?_); rintro e wx ⟨rfl, hb⟩; have HBc := Lib.hid (bel0 HBc.out hb); clear hb)
      | (go_at_call 12; (with_reducible refine (HTK.out _ HBc.out).mono ?_); rintro e wx ⟨rfl, hb⟩; have HBc := Lib.hid (bel0 HBc.out hb); clear hb)
      | (go_at_call 8; (with_reducible refine (HA.out _ HBc.out).mono ?_); rintro e wx ⟨rfl, hb⟩; have HBc := Lib.hid (bel0 HBc.out hb); clear hb))
    go_ret
    exact ⟨rfl, HBc.out⟩
set_option maxRecDepth 100000 in
set_option maxHeartbeats 4000000 in
theorem pctFiles_law (l : List UInt8) (hL : l.length ≤ 9223372036854775807) (w : World) (hM : MT w) : Calls Tryd.prog 5 #[.string (bsB l)] w fun e w' => e = .returned (.bool true) ∧ Below w.heap.size w w' := by
  have HA := Lib.hid fun (W : World) (hW : Below w.heap.size w W) => awake_any W (hM.past hW)
  have HBc : Hid (Below w.heap.size w w) := Lib.hid (Below.refl _ _)
  by_cases h3 : 300 < l.length
  · have hs : (300 : Int) < (bsB l).size := by rw [bsB_size]; omega
    clear h3
    generalize bsB l = t at *
    go_enter Tryd.func5, Tryd.ntmps5
    go_wp2_with (first
      | (go_at_call 8; (with_reducible refine (HA.out _ HBc.out).mono ?_); rintro e wx ⟨rfl, hb⟩; have HBc := Lib.hid (bel0 HBc.out hb); clear hb))
    go_ret
    exact ⟨rfl, HBc.out⟩
  have hs : ((bsB l).size : Int) ≤ 300 := by rw [bsB_size]; omega
  have HF : Hid (∀ W, Below w.heap.size w W → Calls Tryd.prog 14 #[.string (bsB l)] W fun e w' => e = .returned (fileV l) ∧ Below W.heap.size W w') := Lib.hid fun W hW => file_any l (by omega) W (hM.past hW)
  have HR : Hid (∀ W, Below w.heap.size w W → Calls Tryd.prog 15 #[.string (bsB l)] W fun e w' => e = .returned (refFileV l) ∧ Below W.heap.size W w') := Lib.hid fun W hW => refFile_any l (by omega) W
  cases hf : fileL l with
  | none =>
    rw [show fileV l = .tuple #[.string ⟨#[]⟩, .string ⟨#[]⟩, .int .i64 4] by unfold fileV; rw [hf]] at HF
    rw [show refFileV l = .tuple #[.string ⟨#[]⟩, .string ⟨#[]⟩, .bool false] by unfold refFileV; rw [hf]] at HR
    clear h3 hf
    generalize bsB l = s at *
    go_enter Tryd.func5, Tryd.ntmps5
    go_wp2_with (first
      | (go_at_call 14; (with_reducible refine (HF.out _ HBc.out).mono ?_); rintro e wx ⟨rfl, hb⟩; have HBc := Lib.hid (bel0 HBc.out hb); clear hb)
      | (go_at_call 15; (with_reducible refine (HR.out _ HBc.out).mono ?_); rintro e wx ⟨rfl, hb⟩; have HBc := Lib.hid (bel0 HBc.out hb); clear hb)
      | (go_at_call 8; (with_reducible refine (HA.out _ HBc.out).mono ?_); rintro e wx ⟨rfl, hb⟩; have HBc := Lib.hid (bel0 HBc.out hb); clear hb))
    go_ret
    exact ⟨rfl, HBc.out⟩
  | some hp =>
    obtain ⟨a, b⟩ := hp
    rw [show fileV l = .tuple #[.string (bsB a), .string (bsB b), .int .i64 0] by unfold fileV; rw [hf]] at HF
    rw [show refFileV l = .tuple #[.string (bsB a), .string (bsB b), .bool true] by unfold refFileV; rw [hf]] at HR
    clear h3 hf
    generalize bsB l = s at *
    generalize bsB a = sa at *
    generalize bsB b = sb at *
    go_enter Tryd.func5, Tryd.ntmps5
    go_wp2_with (first
      | (go_at_call 14; (with_reducible refine (HF.out _ HBc.out).mono ?_); rintro e wx ⟨rfl, hb⟩; have HBc := Lib.hid (bel0 HBc.out hb); clear hb)
      | (go_at_call 15; (with_reducible refine (HR.out _ HBc.out).mono ?_); rintro e wx ⟨rfl, hb⟩; have HBc := Lib.hid (bel0 HBc.out hb); clear hb)
      | (go_at_call 8; (with_reducible refine (HA.out _ HBc.out).mono ?_); rintro e wx ⟨rfl, hb⟩; have HBc := Lib.hid (bel0 HBc.out hb); clear hb))
    go_ret
    exact ⟨rfl, HBc.out⟩
set_option maxRecDepth 100000 in
set_option maxHeartbeats 4000000 in
theorem pctJoins_law (l m : List UInt8) (hL : l.length ≤ 9223372036854775807) (hL2 : m.length ≤ 9223372036854775807) (w : World) (hM : MT w) : Calls Tryd.prog 7 #[.string (bsB l), .string (bsB m)] w fun e w' => e = .returned (.bool true) ∧ Below w.heap.size w w' := by
  have HA := Lib.hid fun (W : World) (hW : Below w.heap.size w W) => awake_any W (hM.past hW)
  have HBc : Hid (Below w.heap.size w w) := Lib.hid (Below.refl _ _)
  by_cases h3 : 200 < l.length
  · have hs : (200 : Int) < (bsB l).size := by rw [bsB_size]; omega
    clear h3
    generalize bsB l = t at *
    generalize bsB m = t2 at *
    go_enter Tryd.func7, Tryd.ntmps7
    go_wp2_with (first
      | (go_at_call 8; (with_reducible refine (HA.out _ HBc.out).mono ?_); rintro e wx ⟨rfl, hb⟩; have HBc := Lib.hid (bel0 HBc.out hb); clear hb))
    go_ret
    exact ⟨rfl, HBc.out⟩
  by_cases h4 : 200 < m.length
  · have hs : ((bsB l).size : Int) ≤ 200 := by rw [bsB_size]; omega
    have hs2 : (200 : Int) < (bsB m).size := by rw [bsB_size]; omega
    clear h3 h4
    generalize bsB l = t at *
    generalize bsB m = t2 at *
    go_enter Tryd.func7, Tryd.ntmps7
    go_wp2_with (first
      | (go_at_call 8; (with_reducible refine (HA.out _ HBc.out).mono ?_); rintro e wx ⟨rfl, hb⟩; have HBc := Lib.hid (bel0 HBc.out hb); clear hb))
    go_ret
    exact ⟨rfl, HBc.out⟩
  have hs : ((bsB l).size : Int) ≤ 200 := by rw [bsB_size]; omega
  have hs2 : ((bsB m).size : Int) ≤ 200 := by rw [bsB_size]; omega
  have hl1 := layL_len l
  have hl2 := layL_len m
  have hl3 := takeL_len m.length m (Nat.le_refl _)
  have hsz1 : ((bsB (layL l)).size : Int) ≤ 600 := by rw [bsB_size]; omega
  have hsz2 : ((bsB (layL m)).size : Int) ≤ 600 := by rw [bsB_size]; omega
  have hsz3 : ((bsB (takeL m)).size : Int) ≤ 200 := by rw [bsB_size]; omega
  have H1 : Hid (∀ W, Below w.heap.size w W → Calls Tryd.prog 9 #[.string (bsB l ++ bsB m)] W fun e w' => e = .returned (.string (bsB (layL l) ++ bsB (layL m))) ∧ Below W.heap.size W w') := Lib.hid fun W hW => by
    have h := lay_any (l ++ m) (by rw [List.length_append]; omega) W (hM.ev.past hW)
    rwa [layL_app, ← bsB_app, ← bsB_app] at h
  have H2 : Hid (∀ W, Below w.heap.size w W → Calls Tryd.prog 9 #[.string (bsB l)] W fun e w' => e = .returned (.string (bsB (layL l))) ∧ Below W.heap.size W w') := Lib.hid fun W hW => lay_any l (by omega) W (hM.ev.past hW)
  have H3 : Hid (∀ W, Below w.heap.size w W → Calls Tryd.prog 9 #[.string (bsB m)] W fun e w' => e = .returned (.string (bsB (layL m))) ∧ Below W.heap.size W w') := Lib.hid fun W hW => lay_any m (by omega) W (hM.ev.past hW)
  have H4 : Hid (∀ W, Below w.heap.size w W → Calls Tryd.prog 12 #[.string (bsB (layL l) ++ bsB m)] W fun e w' => e = .returned (.string (bsB l ++ bsB (takeL m))) ∧ Below W.heap.size W w') := Lib.hid fun W hW => by
    have h := take_any (layL l ++ m) (by rw [List.length_append]; omega) W (hM.ev.past hW)
    rwa [take_lay, ← bsB_app, ← bsB_app] at h
  have H5 : Hid (∀ W, Below w.heap.size w W → Calls Tryd.prog 12 #[.string (bsB m)] W fun e w' => e = .returned (.string (bsB (takeL m))) ∧ Below W.heap.size W w') := Lib.hid fun W hW => take_any m (by omega) W (hM.ev.past hW)
  clear h3 h4 hl1 hl2 hl3
  generalize bsB (layL l) = u at *
  generalize bsB (layL m) = v at *
  generalize bsB (takeL m) = x at *
  generalize bsB l = s at *
  generalize bsB m = t at *
  go_enter Tryd.func7, Tryd.ntmps7
  go_wp2_with (first
    | (go_at_call 9; (with_reducible refine (H1.out _ HBc.out).mono ?_); rintro e wx ⟨rfl, hb⟩; have HBc := Lib.hid (bel0 HBc.out hb); clear hb)
    | (go_at_call 9; (with_reducible refine (H2.out _ HBc.out).mono ?_); rintro e wx ⟨rfl, hb⟩; have HBc := Lib.hid (bel0 HBc.out hb); clear hb)
    | (go_at_call 9; (with_reducible refine (H3.out _ HBc.out).mono ?_); rintro e wx ⟨rfl, hb⟩; have HBc := Lib.hid (bel0 HBc.out hb); clear hb)
    | (go_at_call 12; (with_reducible refine (H4.out _ HBc.out).mono ?_); rintro e wx ⟨rfl, hb⟩; have HBc := Lib.hid (bel0 HBc.out hb); clear hb)
    | (go_at_call 12; (with_reducible refine (H5.out _ HBc.out).mono ?_); rintro e wx ⟨rfl, hb⟩; have HBc := Lib.hid (bel0 HBc.out hb); clear hb)
    | (go_at_call 8; (with_reducible refine (HA.out _ HBc.out).mono ?_); rintro e wx ⟨rfl, hb⟩; have HBc := Lib.hid (bel0 HBc.out hb); clear hb))
  go_ret
  exact ⟨rfl, HBc.out⟩
end Go.Proofs.YthoadaocbkbefaaDoor
