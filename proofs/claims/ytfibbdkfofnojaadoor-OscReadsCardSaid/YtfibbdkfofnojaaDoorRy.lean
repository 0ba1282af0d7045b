/- The walk of the document's Read, its other ways. Written by mkrx.py. -/
import Derived.Test.YtfibbdkfofnojaaDoorRx
namespace Go.Proofs.YtfibbdkfofnojaaDoor
open Go.RowKit

theorem no_rest {l : List UInt8} (h : (fromL l 1).isSome = false) : behind l = [] ∧ second l = [] := by
  have hb : behind l = [] := by
    unfold behind
    cases hf : fromL l 1 with
    | none => rfl
    | some t => rw [hf] at h; cases h
  exact ⟨hb, by unfold second; rw [hb]; rfl⟩
set_option maxRecDepth 100000 in
set_option maxHeartbeats 8000000 in
theorem refRead_0 (l : List UInt8) (hl : l.length ≤ 1000) (w : World) (his : (fromL l 1).isSome = true) (g1 : fld1 l = [48]) : Calls Tryd.prog 11 #[.string (bsB l)] w fun e w' => e = .returned (sgV 8 0 false (bsB (cut256 (behind l)))) ∧ Below w.heap.size w w' := by
  have HS0 := Lib.hid (EA.start w)
  have HF0 := Lib.hid (refField_any l (by omega) 0 (by decide) (w.alloc (.cells #[.int .i64 0, .int .i64 0, .bool false, .string ⟨#[]⟩] 24)))
  change Hid (Calls _ _ #[.string (bsB l), .int .i64 0] _ fun e w' => e = .returned (.tuple #[.string (bsB (fld1 l)), .bool true]) ∧ _) at HF0
  have HF1 : Hid (∀ W, Calls Tryd.prog 25 #[.string (bsB l), .int .i64 1] W fun e w' => e = .returned (.tuple #[.string (bsB (second l)), .bool (fromL l 1).isSome]) ∧ Below W.heap.size W w') := Lib.hid fun W => refField_any l (by omega) 1 (by decide) W
  have HF2 : Hid (∀ W, Calls Tryd.prog 25 #[.string (bsB l), .int .i64 2] W fun e w' => e = .returned (.tuple #[.string (bsB (third l)), .bool (fromL l 2).isSome]) ∧ Below W.heap.size W w') := Lib.hid fun W => refField_any l (by omega) 2 (by decide) W
  have e1 : (bsB (fld1 l)).toList = fld1 l := bs_toList _
  have e2 : (bsB (second l)).toList = second l := bs_toList _
  have er : (bsB (behind l)).toList = behind l := bs_toList _
  obtain ⟨b2, hb2⟩ : ∃ b, b = (fromL l 2).isSome := ⟨_, rfl⟩
  rw [← hb2] at HF2
  rw [his] at HF1
  obtain ⟨hrx, hrl, hrs⟩ := rest_cut his
  unfold sgV
  have m1 : (bsB (fld1 l)).toList = [48] := by rw [e1, g1]
  have hbl := behind_len l
  have HCU : Hid (∀ W, Calls Tryd.prog 26 #[.string (bsB (behind l))] W fun e w' => e = .returned (.string (bsB (cut256 (behind l)))) ∧ w' = W) := Lib.hid fun W => refCut_any (behind l) (by omega) W
  clear his e1 e2 er hb2 g1
  generalize bsB (cut256 (behind l)) = tc at *
  generalize bsB (fld1 l) = t1 at *
  generalize bsB (second l) = t2 at *
  generalize bsB (third l) = t3 at *
  generalize bsB (behind l) = tr at *
  generalize bsB l = s at *
  go_enter Tryd.func11, Tryd.ntmps11
  go_wp2_with (first | (go_at_call 25; (with_reducible refine (HF0.out).mono ?_); rintro e w1 ⟨rfl, hb⟩; have HS1 := Lib.hid (HS0.out.past hb); clear hb HF0) | (go_at_call 25; (with_reducible refine (HF1.out _).mono ?_); rintro e w2 ⟨rfl, hb⟩; have HS2 := Lib.hid (HS1.out.past hb); clear hb HF1) | (go_at_call 25; (with_reducible refine (HF2.out _).mono ?_); rintro e w3 ⟨rfl, hb⟩; have HS3 := Lib.hid (HS2.out.past hb); clear hb HF2; have HN := Lib.hid HS3.out.both; obtain ⟨⟨⟨c0, c1, c2, c3⟩, f0, f1, f2, f3⟩, n0, n1, n2, n3⟩ := HN.out.cells) | (go_at_call 26; (with_reducible refine (HCU.out _).mono ?_); rintro e wx ⟨rfl, rfl⟩))
  exact bodyPost_ret (v := .agg #[.int .i64 8, .int .i64 0, .bool false, .string tc]) (by simp [results, Tryd.results11, go_sem, *]) rfl ⟨rfl, below_sign HN.out.below (Nat.le_refl _) _ _ _ _⟩
set_option maxRecDepth 100000 in
set_option maxHeartbeats 8000000 in
theorem refRead_0n (l : List UInt8) (hl : l.length ≤ 1000) (w : World) (his : (fromL l 1).isSome = false) (g1 : fld1 l = [48]) : Calls Tryd.prog 11 #[.string (bsB l)] w fun e w' => e = .returned (zeroV) ∧ Below w.heap.size w w' := by
  have HS0 := Lib.hid (EA.start w)
  have HF0 := Lib.hid (refField_any l (by omega) 0 (by decide) (w.alloc (.cells #[.int .i64 0, .int .i64 0, .bool false, .string ⟨#[]⟩] 24)))
  change Hid (Calls _ _ #[.string (bsB l), .int .i64 0] _ fun e w' => e = .returned (.tuple #[.string (bsB (fld1 l)), .bool true]) ∧ _) at HF0
  have HF1 : Hid (∀ W, Calls Tryd.prog 25 #[.string (bsB l), .int .i64 1] W fun e w' => e = .returned (.tuple #[.string (bsB (second l)), .bool (fromL l 1).isSome]) ∧ Below W.heap.size W w') := Lib.hid fun W => refField_any l (by omega) 1 (by decide) W
  have HF2 : Hid (∀ W, Calls Tryd.prog 25 #[.string (bsB l), .int .i64 2] W fun e w' => e = .returned (.tuple #[.string (bsB (third l)), .bool (fromL l 2).isSome]) ∧ Below W.heap.size W w') := Lib.hid fun W => refField_any l (by omega) 2 (by decide) W
  have e1 : (bsB (fld1 l)).toList = fld1 l := bs_toList _
  have e2 : (bsB (second l)).toList = second l := bs_toList _
  have er : (bsB (behind l)).toList = behind l := bs_toList _
  obtain ⟨b2, hb2⟩ : ∃ b, b = (fromL l 2).isSome := ⟨_, rfl⟩
  rw [← hb2] at HF2
  rw [his] at HF1
  obtain ⟨hbr, hse⟩ := no_rest his
  unfold zeroV sgV
  have m1 : (bsB (fld1 l)).toList = [48] := by rw [e1, g1]
  clear his e1 e2 er hb2 g1 hbr hse
  generalize bsB (fld1 l) = t1 at *
  generalize bsB (second l) = t2 at *
  generalize bsB (third l) = t3 at *
  generalize bsB (behind l) = tr at *
  generalize bsB l = s at *
  go_enter Tryd.func11, Tryd.ntmps11
  go_wp2_with (first | (go_at_call 25; (with_reducible refine (HF0.out).mono ?_); rintro e w1 ⟨rfl, hb⟩; have HS1 := Lib.hid (HS0.out.past hb); clear hb HF0) | (go_at_call 25; (with_reducible refine (HF1.out _).mono ?_); rintro e w2 ⟨rfl, hb⟩; have HS2 := Lib.hid (HS1.out.past hb); clear hb HF1) | (go_at_call 25; (with_reducible refine (HF2.out _).mono ?_); rintro e w3 ⟨rfl, hb⟩; have HS3 := Lib.hid (HS2.out.past hb); clear hb HF2; have HN := Lib.hid HS3.out.both; obtain ⟨⟨⟨c0, c1, c2, c3⟩, f0, f1, f2, f3⟩, n0, n1, n2, n3⟩ := HN.out.cells))
  exact bodyPost_ret (v := .agg #[.int .i64 0, .int .i64 0, .bool false, .string ⟨#[]⟩]) (by simp [results, Tryd.results11, go_sem, *]) rfl ⟨rfl, below_sign HN.out.below (Nat.le_refl _) _ _ _ _⟩
set_option maxRecDepth 100000 in
set_option maxHeartbeats 8000000 in
theorem refRead_2 (l : List UInt8) (hl : l.length ≤ 1000) (w : World) (his : (fromL l 1).isSome = true) (g1 : fld1 l = [50]) : Calls Tryd.prog 11 #[.string (bsB l)] w fun e w' => e = .returned (sgV 8 0 false (bsB (cut256 (behind l)))) ∧ Below w.heap.size w w' := by
  have HS0 := Lib.hid (EA.start w)
  have HF0 := Lib.hid (refField_any l (by omega) 0 (by decide) (w.alloc (.cells #[.int .i64 0, .int .i64 0, .bool false, .string ⟨#[]⟩] 24)))
  change Hid (Calls _ _ #[.string (bsB l), .int .i64 0] _ fun e w' => e = .returned (.tuple #[.string (bsB (fld1 l)), .bool true]) ∧ _) at HF0
  have HF1 : Hid (∀ W, Calls Tryd.prog 25 #[.string (bsB l), .int .i64 1] W fun e w' => e = .returned (.tuple #[.string (bsB (second l)), .bool (fromL l 1).isSome]) ∧ Below W.heap.size W w') := Lib.hid fun W => refField_any l (by omega) 1 (by decide) W
  have HF2 : Hid (∀ W, Calls Tryd.prog 25 #[.string (bsB l), .int .i64 2] W fun e w' => e = .returned (.tuple #[.string (bsB (third l)), .bool (fromL l 2).isSome]) ∧ Below W.heap.size W w') := Lib.hid fun W => refField_any l (by omega) 2 (by decide) W
  have e1 : (bsB (fld1 l)).toList = fld1 l := bs_toList _
  have e2 : (bsB (second l)).toList = second l := bs_toList _
  have er : (bsB (behind l)).toList = behind l := bs_toList _
  obtain ⟨b2, hb2⟩ : ∃ b, b = (fromL l 2).isSome := ⟨_, rfl⟩
  rw [← hb2] at HF2
  rw [his] at HF1
  obtain ⟨hrx, hrl, hrs⟩ := rest_cut his
  unfold sgV
  have m1 : (bsB (fld1 l)).toList = [50] := by rw [e1, g1]
  have hbl := behind_len l
  have HCU : Hid (∀ W, Calls Tryd.prog 26 #[.string (bsB (behind l))] W fun e w' => e = .returned (.string (bsB (cut256 (behind l)))) ∧ w' = W) := Lib.hid fun W => refCut_any (behind l) (by omega) W
  clear his e1 e2 er hb2 g1
  generalize bsB (cut256 (behind l)) = tc at *
  generalize bsB (fld1 l) = t1 at *
  generalize bsB (second l) = t2 at *
  generalize bsB (third l) = t3 at *
  generalize bsB (behind l) = tr at *
  generalize bsB l = s at *
  go_enter Tryd.func11, Tryd.ntmps11
  go_wp2_with (first | (go_at_call 25; (with_reducible refine (HF0.out).mono ?_); rintro e w1 ⟨rfl, hb⟩; have HS1 := Lib.hid (HS0.out.past hb); clear hb HF0) | (go_at_call 25; (with_reducible refine (HF1.out _).mono ?_); rintro e w2 ⟨rfl, hb⟩; have HS2 := Lib.hid (HS1.out.past hb); clear hb HF1) | (go_at_call 25; (with_reducible refine (HF2.out _).mono ?_); rintro e w3 ⟨rfl, hb⟩; have HS3 := Lib.hid (HS2.out.past hb); clear hb HF2; have HN := Lib.hid HS3.out.both; obtain ⟨⟨⟨c0, c1, c2, c3⟩, f0, f1, f2, f3⟩, n0, n1, n2, n3⟩ := HN.out.cells) | (go_at_call 26; (with_reducible refine (HCU.out _).mono ?_); rintro e wx ⟨rfl, rfl⟩))
  exact bodyPost_ret (v := .agg #[.int .i64 8, .int .i64 0, .bool false, .string tc]) (by simp [results, Tryd.results11, go_sem, *]) rfl ⟨rfl, below_sign HN.out.below (Nat.le_refl _) _ _ _ _⟩
set_option maxRecDepth 100000 in
set_option maxHeartbeats 8000000 in
theorem refRead_2n (l : List UInt8) (hl : l.length ≤ 1000) (w : World) (his : (fromL l 1).isSome = false) (g1 : fld1 l = [50]) : Calls Tryd.prog 11 #[.string (bsB l)] w fun e w' => e = .returned (zeroV) ∧ Below w.heap.size w w' := by
  have HS0 := Lib.hid (EA.start w)
  have HF0 := Lib.hid (refField_any l (by omega) 0 (by decide) (w.alloc (.cells #[.int .i64 0, .int .i64 0, .bool false, .string ⟨#[]⟩] 24)))
  change Hid (Calls _ _ #[.string (bsB l), .int .i64 0] _ fun e w' => e = .returned (.tuple #[.string (bsB (fld1 l)), .bool true]) ∧ _) at HF0
  have HF1 : Hid (∀ W, Calls Tryd.prog 25 #[.string (bsB l), .int .i64 1] W fun e w' => e = .returned (.tuple #[.string (bsB (second l)), .bool (fromL l 1).isSome]) ∧ Below W.heap.size W w') := Lib.hid fun W => refField_any l (by omega) 1 (by decide) W
  have HF2 : Hid (∀ W, Calls Tryd.prog 25 #[.string (bsB l), .int .i64 2] W fun e w' => e = .returned (.tuple #[.string (bsB (third l)), .bool (fromL l 2).isSome]) ∧ Below W.heap.size W w') := Lib.hid fun W => refField_any l (by omega) 2 (by decide) W
  have e1 : (bsB (fld1 l)).toList = fld1 l := bs_toList _
  have e2 : (bsB (second l)).toList = second l := bs_toList _
  have er : (bsB (behind l)).toList = behind l := bs_toList _
  obtain ⟨b2, hb2⟩ : ∃ b, b = (fromL l 2).isSome := ⟨_, rfl⟩
  rw [← hb2] at HF2
  rw [his] at HF1
  obtain ⟨hbr, hse⟩ := no_rest his
  unfold zeroV sgV
  have m1 : (bsB (fld1 l)).toList = [50] := by rw [e1, g1]
  clear his e1 e2 er hb2 g1 hbr hse
  generalize bsB (fld1 l) = t1 at *
  generalize bsB (second l) = t2 at *
  generalize bsB (third l) = t3 at *
  generalize bsB (behind l) = tr at *
  generalize bsB l = s at *
  go_enter Tryd.func11, Tryd.ntmps11
  go_wp2_with (first | (go_at_call 25; (with_reducible refine (HF0.out).mono ?_); rintro e w1 ⟨rfl, hb⟩; have HS1 := Lib.hid (HS0.out.past hb); clear hb HF0) | (go_at_call 25; (with_reducible refine (HF1.out _).mono ?_); rintro e w2 ⟨rfl, hb⟩; have HS2 := Lib.hid (HS1.out.past hb); clear hb HF1) | (go_at_call 25; (with_reducible refine (HF2.out _).mono ?_); rintro e w3 ⟨rfl, hb⟩; have HS3 := Lib.hid (HS2.out.past hb); clear hb HF2; have HN := Lib.hid HS3.out.both; obtain ⟨⟨⟨c0, c1, c2, c3⟩, f0, f1, f2, f3⟩, n0, n1, n2, n3⟩ := HN.out.cells))
  exact bodyPost_ret (v := .agg #[.int .i64 0, .int .i64 0, .bool false, .string ⟨#[]⟩]) (by simp [results, Tryd.results11, go_sem, *]) rfl ⟨rfl, below_sign HN.out.below (Nat.le_refl _) _ _ _ _⟩
set_option maxRecDepth 100000 in
set_option maxHeartbeats 8000000 in
theorem refRead_7y (l : List UInt8) (hl : l.length ≤ 1000) (w : World) (his : (fromL l 1).isSome = true) (g1 : fld1 l = [55]) (h p : List UInt8) (gf : fileL (behind l) = some (h, p)) : Calls Tryd.prog 11 #[.string (bsB l)] w fun e w' => e = .returned (sgV 6 0 false (bsB (cut256 p))) ∧ Below w.heap.size w w' := by
  have HS0 := Lib.hid (EA.start w)
  have HF0 := Lib.hid (refField_any l (by omega) 0 (by decide) (w.alloc (.cells #[.int .i64 0, .int .i64 0, .bool false, .string ⟨#[]⟩] 24)))
  change Hid (Calls _ _ #[.string (bsB l), .int .i64 0] _ fun e w' => e = .returned (.tuple #[.string (bsB (fld1 l)), .bool true]) ∧ _) at HF0
  have HF1 : Hid (∀ W, Calls Tryd.prog 25 #[.string (bsB l), .int .i64 1] W fun e w' => e = .returned (.tuple #[.string (bsB (second l)), .bool (fromL l 1).isSome]) ∧ Below W.heap.size W w') := Lib.hid fun W => refField_any l (by omega) 1 (by decide) W
  have HF2 : Hid (∀ W, Calls Tryd.prog 25 #[.string (bsB l), .int .i64 2] W fun e w' => e = .returned (.tuple #[.string (bsB (third l)), .bool (fromL l 2).isSome]) ∧ Below W.heap.size W w') := Lib.hid fun W => refField_any l (by omega) 2 (by decide) W
  have e1 : (bsB (fld1 l)).toList = fld1 l := bs_toList _
  have e2 : (bsB (second l)).toList = second l := bs_toList _
  have er : (bsB (behind l)).toList = behind l := bs_toList _
  obtain ⟨b2, hb2⟩ : ∃ b, b = (fromL l 2).isSome := ⟨_, rfl⟩
  rw [← hb2] at HF2
  rw [his] at HF1
  obtain ⟨hrx, hrl, hrs⟩ := rest_cut his
  unfold sgV
  have m1 : (bsB (fld1 l)).toList = [55] := by rw [e1, g1]
  have hbl := behind_len l
  have hpl := file_len gf
  have HCU : Hid (∀ W, Calls Tryd.prog 26 #[.string (bsB (p))] W fun e w' => e = .returned (.string (bsB (cut256 (p)))) ∧ w' = W) := Lib.hid fun W => refCut_any (p) (by omega) W
  have HFI : Hid (∀ W, Calls Tryd.prog 28 #[.string (bsB (behind l))] W fun e w' => e = .returned (.tuple #[.string (bsB h), .string (bsB p), .bool true]) ∧ Below W.heap.size W w') := Lib.hid fun W => by
    have h2 := refFile_any (behind l) (by omega) W
    rwa [show refFileV (behind l) = .tuple #[.string (bsB h), .string (bsB p), .bool true] by unfold refFileV; rw [gf]] at h2
  clear his e1 e2 er hb2 g1 gf hpl
  generalize bsB (cut256 p) = tc at *
  generalize bsB p = tp at *
  generalize bsB h = th at *
  generalize bsB (fld1 l) = t1 at *
  generalize bsB (second l) = t2 at *
  generalize bsB (third l) = t3 at *
  generalize bsB (behind l) = tr at *
  generalize bsB l = s at *
  go_enter Tryd.func11, Tryd.ntmps11
  go_wp2_with (first | (go_at_call 25; (with_reducible refine (HF0.out).mono ?_); rintro e w1 ⟨rfl, hb⟩; have HS1 := Lib.hid (HS0.out.past hb); clear hb HF0) | (go_at_call 25; (with_reducible refine (HF1.out _).mono ?_); rintro e w2 ⟨rfl, hb⟩; have HS2 := Lib.hid (HS1.out.past hb); clear hb HF1) | (go_at_call 25; (with_reducible refine (HF2.out _).mono ?_); rintro e w3 ⟨rfl, hb⟩; have HS3 := Lib.hid (HS2.out.past hb); clear hb HF2; have HN := Lib.hid HS3.out.both; obtain ⟨⟨⟨c0, c1, c2, c3⟩, f0, f1, f2, f3⟩, n0, n1, n2, n3⟩ := HN.out.cells) | (go_at_call 28; (with_reducible refine (HFI.out _).mono ?_); rintro e wx ⟨rfl, hb⟩; have HN := Lib.hid (HN.out.past hb); clear c0 c1 c2 c3 f0 f1 f2 f3 n0 n1 n2 n3; obtain ⟨⟨⟨c0, c1, c2, c3⟩, f0, f1, f2, f3⟩, n0, n1, n2, n3⟩ := HN.out.cells; clear hb HFI) | (go_at_call 26; (with_reducible refine (HCU.out _).mono ?_); rintro e wx ⟨rfl, rfl⟩))
  exact bodyPost_ret (v := .agg #[.int .i64 6, .int .i64 0, .bool false, .string tc]) (by simp [results, Tryd.results11, go_sem, *]) rfl ⟨rfl, below_sign HN.out.below (Nat.le_refl _) _ _ _ _⟩
set_option maxRecDepth 100000 in
set_option maxHeartbeats 8000000 in
theorem refRead_7n (l : List UInt8) (hl : l.length ≤ 1000) (w : World) (his : (fromL l 1).isSome = true) (g1 : fld1 l = [55]) (gf : fileL (behind l) = none) : Calls Tryd.prog 11 #[.string (bsB l)] w fun e w' => e = .returned (zeroV) ∧ Below w.heap.size w w' := by
  have HS0 := Lib.hid (EA.start w)
  have HF0 := Lib.hid (refField_any l (by omega) 0 (by decide) (w.alloc (.cells #[.int .i64 0, .int .i64 0, .bool false, .string ⟨#[]⟩] 24)))
  change Hid (Calls _ _ #[.string (bsB l), .int .i64 0] _ fun e w' => e = .returned (.tuple #[.string (bsB (fld1 l)), .bool true]) ∧ _) at HF0
  have HF1 : Hid (∀ W, Calls Tryd.prog 25 #[.string (bsB l), .int .i64 1] W fun e w' => e = .returned (.tuple #[.string (bsB (second l)), .bool (fromL l 1).isSome]) ∧ Below W.heap.size W w') := Lib.hid fun W => refField_any l (by omega) 1 (by decide) W
  have HF2 : Hid (∀ W, Calls Tryd.prog 25 #[.string (bsB l), .int .i64 2] W fun e w' => e = .returned (.tuple #[.string (bsB (third l)), .bool (fromL l 2).isSome]) ∧ Below W.heap.size W w') := Lib.hid fun W => refField_any l (by omega) 2 (by decide) W
  have e1 : (bsB (fld1 l)).toList = fld1 l := bs_toList _
  have e2 : (bsB (second l)).toList = second l := bs_toList _
  have er : (bsB (behind l)).toList = behind l := bs_toList _
  obtain ⟨b2, hb2⟩ : ∃ b, b = (fromL l 2).isSome := ⟨_, rfl⟩
  rw [← hb2] at HF2
  rw [his] at HF1
  obtain ⟨hrx, hrl, hrs⟩ := rest_cut his
  unfold zeroV sgV
  have m1 : (bsB (fld1 l)).toList = [55] := by rw [e1, g1]
  have hbl := behind_len l
  have HFI : Hid (∀ W, Calls Tryd.prog 28 #[.string (bsB (behind l))] W fun e w' => e = .returned (.tuple #[.string ⟨#[]⟩, .string ⟨#[]⟩, .bool false]) ∧ Below W.heap.size W w') := Lib.hid fun W => by
    have h2 := refFile_any (behind l) (by first | omega | decide) W
    rw [show refFileV (behind l) = .tuple #[.string ⟨#[]⟩, .string ⟨#[]⟩, .bool false] by unfold refFileV; rw [gf]] at h2
    exact h2
  clear his e1 e2 er hb2 g1 gf
  generalize bsB (fld1 l) = t1 at *
  generalize bsB (second l) = t2 at *
  generalize bsB (third l) = t3 at *
  generalize bsB (behind l) = tr at *
  generalize bsB l = s at *
  go_enter Tryd.func11, Tryd.ntmps11
  go_wp2_with (first | (go_at_call 25; (with_reducible refine (HF0.out).mono ?_); rintro e w1 ⟨rfl, hb⟩; have HS1 := Lib.hid (HS0.out.past hb); clear hb HF0) | (go_at_call 25; (with_reducible refine (HF1.out _).mono ?_); rintro e w2 ⟨rfl, hb⟩; have HS2 := Lib.hid (HS1.out.past hb); clear hb HF1) | (go_at_call 25; (with_reducible refine (HF2.out _).mono ?_); rintro e w3 ⟨rfl, hb⟩; have HS3 := Lib.hid (HS2.out.past hb); clear hb HF2; have HN := Lib.hid HS3.out.both; obtain ⟨⟨⟨c0, c1, c2, c3⟩, f0, f1, f2, f3⟩, n0, n1, n2, n3⟩ := HN.out.cells) | (go_at_call 28; (with_reducible refine (HFI.out _).mono ?_); rintro e wx ⟨rfl, hb⟩; have HN := Lib.hid (HN.out.past hb); clear c0 c1 c2 c3 f0 f1 f2 f3 n0 n1 n2 n3; obtain ⟨⟨⟨c0, c1, c2, c3⟩, f0, f1, f2, f3⟩, n0, n1, n2, n3⟩ := HN.out.cells; clear hb HFI))
  exact bodyPost_ret (v := .agg #[.int .i64 0, .int .i64 0, .bool false, .string ⟨#[]⟩]) (by simp [results, Tryd.results11, go_sem, *]) rfl ⟨rfl, below_sign HN.out.below (Nat.le_refl _) _ _ _ _⟩
set_option maxRecDepth 100000 in
set_option maxHeartbeats 8000000 in
theorem refRead_7x (l : List UInt8) (hl : l.length ≤ 1000) (w : World) (his : (fromL l 1).isSome = false) (g1 : fld1 l = [55]) : Calls Tryd.prog 11 #[.string (bsB l)] w fun e w' => e = .returned (zeroV) ∧ Below w.heap.size w w' := by
  have HS0 := Lib.hid (EA.start w)
  have HF0 := Lib.hid (refField_any l (by omega) 0 (by decide) (w.alloc (.cells #[.int .i64 0, .int .i64 0, .bool false, .string ⟨#[]⟩] 24)))
  change Hid (Calls _ _ #[.string (bsB l), .int .i64 0] _ fun e w' => e = .returned (.tuple #[.string (bsB (fld1 l)), .bool true]) ∧ _) at HF0
  have HF1 : Hid (∀ W, Calls Tryd.prog 25 #[.string (bsB l), .int .i64 1] W fun e w' => e = .returned (.tuple #[.string (bsB (second l)), .bool (fromL l 1).isSome]) ∧ Below W.heap.size W w') := Lib.hid fun W => refField_any l (by omega) 1 (by decide) W
  have HF2 : Hid (∀ W, Calls Tryd.prog 25 #[.string (bsB l), .int .i64 2] W fun e w' => e = .returned (.tuple #[.string (bsB (third l)), .bool (fromL l 2).isSome]) ∧ Below W.heap.size W w') := Lib.hid fun W => refField_any l (by omega) 2 (by decide) W
  have e1 : (bsB (fld1 l)).toList = fld1 l := bs_toList _
  have e2 : (bsB (second l)).toList = second l := bs_toList _
  have er : (bsB (behind l)).toList = behind l := bs_toList _
  obtain ⟨b2, hb2⟩ : ∃ b, b = (fromL l 2).isSome := ⟨_, rfl⟩
  rw [← hb2] at HF2
  rw [his] at HF1
  obtain ⟨hbr, hse⟩ := no_rest his
  unfold zeroV sgV
  have m1 : (bsB (fld1 l)).toList = [55] := by rw [e1, g1]
  have gf : fileL [] = none := by decide
  have HFI : Hid (∀ W, Calls Tryd.prog 28 #[.string ⟨#[]⟩] W fun e w' => e = .returned (.tuple #[.string ⟨#[]⟩, .string ⟨#[]⟩, .bool false]) ∧ Below W.heap.size W w') := Lib.hid fun W => by
    have h2 := refFile_any [] (by first | omega | decide) W
    rw [show refFileV [] = .tuple #[.string ⟨#[]⟩, .string ⟨#[]⟩, .bool false] by unfold refFileV; rw [gf]] at h2
    exact h2
  clear his e1 e2 er hb2 g1 hbr hse gf
  generalize bsB (fld1 l) = t1 at *
  generalize bsB (second l) = t2 at *
  generalize bsB (third l) = t3 at *
  generalize bsB (behind l) = tr at *
  generalize bsB l = s at *
  go_enter Tryd.func11, Tryd.ntmps11
  go_wp2_with (first | (go_at_call 25; (with_reducible refine (HF0.out).mono ?_); rintro e w1 ⟨rfl, hb⟩; have HS1 := Lib.hid (HS0.out.past hb); clear hb HF0) | (go_at_call 25; (with_reducible refine (HF1.out _).mono ?_); rintro e w2 ⟨rfl, hb⟩; have HS2 := Lib.hid (HS1.out.past hb); clear hb HF1) | (go_at_call 25; (with_reducible refine (HF2.out _).mono ?_); rintro e w3 ⟨rfl, hb⟩; have HS3 := Lib.hid (HS2.out.past hb); clear hb HF2; have HN := Lib.hid HS3.out.both; obtain ⟨⟨⟨c0, c1, c2, c3⟩, f0, f1, f2, f3⟩, n0, n1, n2, n3⟩ := HN.out.cells) | (go_at_call 28; (with_reducible refine (HFI.out _).mono ?_); rintro e wx ⟨rfl, hb⟩; have HN := Lib.hid (HN.out.past hb); clear c0 c1 c2 c3 f0 f1 f2 f3 n0 n1 n2 n3; obtain ⟨⟨⟨c0, c1, c2, c3⟩, f0, f1, f2, f3⟩, n0, n1, n2, n3⟩ := HN.out.cells; clear hb HFI))
  exact bodyPost_ret (v := .agg #[.int .i64 0, .int .i64 0, .bool false, .string ⟨#[]⟩]) (by simp [results, Tryd.results11, go_sem, *]) rfl ⟨rfl, below_sign HN.out.below (Nat.le_refl _) _ _ _ _⟩
set_option maxRecDepth 100000 in
set_option maxHeartbeats 8000000 in
theorem refRead_1337m (l : List UInt8) (hl : l.length ≤ 1000) (w : World) (his : (fromL l 1).isSome = true) (g1 : fld1 l = [49, 51, 51, 55]) (gm : behind l = markT) : Calls Tryd.prog 11 #[.string (bsB l)] w fun e w' => e = .returned (sgV 7 0 false ⟨#[]⟩) ∧ Below w.heap.size w w' := by
  have HS0 := Lib.hid (EA.start w)
  have HF0 := Lib.hid (refField_any l (by omega) 0 (by decide) (w.alloc (.cells #[.int .i64 0, .int .i64 0, .bool false, .string ⟨#[]⟩] 24)))
  change Hid (Calls _ _ #[.string (bsB l), .int .i64 0] _ fun e w' => e = .returned (.tuple #[.string (bsB (fld1 l)), .bool true]) ∧ _) at HF0
  have HF1 : Hid (∀ W, Calls Tryd.prog 25 #[.string (bsB l), .int .i64 1] W fun e w' => e = .returned (.tuple #[.string (bsB (second l)), .bool (fromL l 1).isSome]) ∧ Below W.heap.size W w') := Lib.hid fun W => refField_any l (by omega) 1 (by decide) W
  have HF2 : Hid (∀ W, Calls Tryd.prog 25 #[.string (bsB l), .int .i64 2] W fun e w' => e = .returned (.tuple #[.string (bsB (third l)), .bool (fromL l 2).isSome]) ∧ Below W.heap.size W w') := Lib.hid fun W => refField_any l (by omega) 2 (by decide) W
  have e1 : (bsB (fld1 l)).toList = fld1 l := bs_toList _
  have e2 : (bsB (second l)).toList = second l := bs_toList _
  have er : (bsB (behind l)).toList = behind l := bs_toList _
  obtain ⟨b2, hb2⟩ : ∃ b, b = (fromL l 2).isSome := ⟨_, rfl⟩
  rw [← hb2] at HF2
  rw [his] at HF1
  obtain ⟨hrx, hrl, hrs⟩ := rest_cut his
  unfold sgV
  have m1 : (bsB (fld1 l)).toList = [49, 51, 51, 55] := by rw [e1, g1]
  have mr : (bsB (behind l)).toList = [83, 101, 116, 77, 97, 114, 107] := by rw [er, gm]; rfl
  clear his e1 e2 er hb2 g1 gm
  generalize bsB (fld1 l) = t1 at *
  generalize bsB (second l) = t2 at *
  generalize bsB (third l) = t3 at *
  generalize bsB (behind l) = tr at *
  generalize bsB l = s at *
  go_enter Tryd.func11, Tryd.ntmps11
  go_wp2_with (first | (go_at_call 25; (with_reducible refine (HF0.out).mono ?_); rintro e w1 ⟨rfl, hb⟩; have HS1 := Lib.hid (HS0.out.past hb); clear hb HF0) | (go_at_call 25; (with_reducible refine (HF1.out _).mono ?_); rintro e w2 ⟨rfl, hb⟩; have HS2 := Lib.hid (HS1.out.past hb); clear hb HF1) | (go_at_call 25; (with_reducible refine (HF2.out _).mono ?_); rintro e w3 ⟨rfl, hb⟩; have HS3 := Lib.hid (HS2.out.past hb); clear hb HF2; have HN := Lib.hid HS3.out.both; obtain ⟨⟨⟨c0, c1, c2, c3⟩, f0, f1, f2, f3⟩, n0, n1, n2, n3⟩ := HN.out.cells))
  exact bodyPost_ret (v := .agg #[.int .i64 7, .int .i64 0, .bool false, .string ⟨#[]⟩]) (by simp [results, Tryd.results11, go_sem, *]) rfl ⟨rfl, below_sign HN.out.below (Nat.le_refl _) _ _ _ _⟩
set_option maxRecDepth 100000 in
set_option maxHeartbeats 8000000 in
theorem refRead_1337y (l : List UInt8) (hl : l.length ≤ 1000) (w : World) (his : (fromL l 1).isSome = true) (g1 : fld1 l = [49, 51, 51, 55]) (gm : behind l ≠ markT) (gp : Lib.hasPrefix (behind l) curT = true) : Calls Tryd.prog 11 #[.string (bsB l)] w fun e w' => e = .returned (sgV 6 0 false (bsB (cut256 ((behind l).drop 11)))) ∧ Below w.heap.size w w' := by
  have HS0 := Lib.hid (EA.start w)
  have HF0 := Lib.hid (refField_any l (by omega) 0 (by decide) (w.alloc (.cells #[.int .i64 0, .int .i64 0, .bool false, .string ⟨#[]⟩] 24)))
  change Hid (Calls _ _ #[.string (bsB l), .int .i64 0] _ fun e w' => e = .returned (.tuple #[.string (bsB (fld1 l)), .bool true]) ∧ _) at HF0
  have HF1 : Hid (∀ W, Calls Tryd.prog 25 #[.string (bsB l), .int .i64 1] W fun e w' => e = .returned (.tuple #[.string (bsB (second l)), .bool (fromL l 1).isSome]) ∧ Below W.heap.size W w') := Lib.hid fun W => refField_any l (by omega) 1 (by decide) W
  have HF2 : Hid (∀ W, Calls Tryd.prog 25 #[.string (bsB l), .int .i64 2] W fun e w' => e = .returned (.tuple #[.string (bsB (third l)), .bool (fromL l 2).isSome]) ∧ Below W.heap.size W w') := Lib.hid fun W => refField_any l (by omega) 2 (by decide) W
  have e1 : (bsB (fld1 l)).toList = fld1 l := bs_toList _
  have e2 : (bsB (second l)).toList = second l := bs_toList _
  have er : (bsB (behind l)).toList = behind l := bs_toList _
  obtain ⟨b2, hb2⟩ : ∃ b, b = (fromL l 2).isSome := ⟨_, rfl⟩
  rw [← hb2] at HF2
  rw [his] at HF1
  obtain ⟨hrx, hrl, hrs⟩ := rest_cut his
  unfold sgV
  have m1 : (bsB (fld1 l)).toList = [49, 51, 51, 55] := by rw [e1, g1]
  have hbl := behind_len l
  have hdl : ((behind l).drop 11).length ≤ l.length := by rw [List.length_drop]; omega
  have mr : ((bsB (behind l)).toList == [83, 101, 116, 77, 97, 114, 107]) = false := by rw [er]; exact beq_false_of_ne gm
  have HST : Hid (∀ W, Calls Tryd.prog 27 #[.string (bsB (behind l)), .string ⟨#[67, 117, 114, 114, 101, 110, 116, 68, 105, 114, 61]⟩] W fun e w' => e = .returned (.tuple #[.string (bsB ((behind l).drop 11)), .bool true]) ∧ w' = W) := Lib.hid fun W => by
    have h := refStarts_any (behind l) curT W
    rw [if_pos gp] at h
    exact h
  have HCU : Hid (∀ W, Calls Tryd.prog 26 #[.string (bsB ((behind l).drop 11))] W fun e w' => e = .returned (.string (bsB (cut256 ((behind l).drop 11)))) ∧ w' = W) := Lib.hid fun W => refCut_any ((behind l).drop 11) (by omega) W
  clear his e1 e2 er hb2 g1 gm gp hdl
  generalize bsB (cut256 ((behind l).drop 11)) = tc at *
  generalize bsB ((behind l).drop 11) = td at *
  generalize bsB (fld1 l) = t1 at *
  generalize bsB (second l) = t2 at *
  generalize bsB (third l) = t3 at *
  generalize bsB (behind l) = tr at *
  generalize bsB l = s at *
  go_enter Tryd.func11, Tryd.ntmps11
  go_wp2_with (first | (go_at_call 25; (with_reducible refine (HF0.out).mono ?_); rintro e w1 ⟨rfl, hb⟩; have HS1 := Lib.hid (HS0.out.past hb); clear hb HF0) | (go_at_call 25; (with_reducible refine (HF1.out _).mono ?_); rintro e w2 ⟨rfl, hb⟩; have HS2 := Lib.hid (HS1.out.past hb); clear hb HF1) | (go_at_call 25; (with_reducible refine (HF2.out _).mono ?_); rintro e w3 ⟨rfl, hb⟩; have HS3 := Lib.hid (HS2.out.past hb); clear hb HF2; have HN := Lib.hid HS3.out.both; obtain ⟨⟨⟨c0, c1, c2, c3⟩, f0, f1, f2, f3⟩, n0, n1, n2, n3⟩ := HN.out.cells) | (go_at_call 27; (with_reducible refine (HST.out _).mono ?_); rintro e wx ⟨rfl, rfl⟩) | (go_at_call 26; (with_reducible refine (HCU.out _).mono ?_); rintro e wx ⟨rfl, rfl⟩))
  exact bodyPost_ret (v := .agg #[.int .i64 6, .int .i64 0, .bool false, .string tc]) (by simp [results, Tryd.results11, go_sem, *]) rfl ⟨rfl, below_sign HN.out.below (Nat.le_refl _) _ _ _ _⟩
set_option maxRecDepth 100000 in
set_option maxHeartbeats 8000000 in
theorem refRead_1337n (l : List UInt8) (hl : l.length ≤ 1000) (w : World) (his : (fromL l 1).isSome = true) (g1 : fld1 l = [49, 51, 51, 55]) (gm : behind l ≠ markT) (gp : ¬ Lib.hasPrefix (behind l) curT = true) : Calls Tryd.prog 11 #[.string (bsB l)] w fun e w' => e = .returned (zeroV) ∧ Below w.heap.size w w' := by
  have HS0 := Lib.hid (EA.start w)
  have HF0 := Lib.hid (refField_any l (by omega) 0 (by decide) (w.alloc (.cells #[.int .i64 0, .int .i64 0, .bool false, .string ⟨#[]⟩] 24)))
  change Hid (Calls _ _ #[.string (bsB l), .int .i64 0] _ fun e w' => e = .returned (.tuple #[.string (bsB (fld1 l)), .bool true]) ∧ _) at HF0
  have HF1 : Hid (∀ W, Calls Tryd.prog 25 #[.string (bsB l), .int .i64 1] W fun e w' => e = .returned (.tuple #[.string (bsB (second l)), .bool (fromL l 1).isSome]) ∧ Below W.heap.size W w') := Lib.hid fun W => refField_any l (by omega) 1 (by decide) W
  have HF2 : Hid (∀ W, Calls Tryd.prog 25 #[.string (bsB l), .int .i64 2] W fun e w' => e = .returned (.tuple #[.string (bsB (third l)), .bool (fromL l 2).isSome]) ∧ Below W.heap.size W w') := Lib.hid fun W => refField_any l (by omega) 2 (by decide) W
  have e1 : (bsB (fld1 l)).toList = fld1 l := bs_toList _
  have e2 : (bsB (second l)).toList = second l := bs_toList _
  have er : (bsB (behind l)).toList = behind l := bs_toList _
  obtain ⟨b2, hb2⟩ : ∃ b, b = (fromL l 2).isSome := ⟨_, rfl⟩
  rw [← hb2] at HF2
  rw [his] at HF1
  obtain ⟨hrx, hrl, hrs⟩ := rest_cut his
  unfold zeroV sgV
  have m1 : (bsB (fld1 l)).toList = [49, 51, 51, 55] := by rw [e1, g1]
  have mr : ((bsB (behind l)).toList == [83, 101, 116, 77, 97, 114, 107]) = false := by rw [er]; exact beq_false_of_ne gm
  have HST : Hid (∀ W, Calls Tryd.prog 27 #[.string (bsB (behind l)), .string ⟨#[67, 117, 114, 114, 101, 110, 116, 68, 105, 114, 61]⟩] W fun e w' => e = .returned (.tuple #[.string ⟨#[]⟩, .bool false]) ∧ w' = W) := Lib.hid fun W => by
    have h := refStarts_any (behind l) curT W
    rw [if_neg gp] at h
    exact h
  clear his e1 e2 er hb2 g1 gm gp
  generalize bsB (fld1 l) = t1 at *
  generalize bsB (second l) = t2 at *
  generalize bsB (third l) = t3 at *
  generalize bsB (behind l) = tr at *
  generalize bsB l = s at *
  go_enter Tryd.func11, Tryd.ntmps11
  go_wp2_with (first | (go_at_call 25; (with_reducible refine (HF0.out).mono ?_); rintro e w1 ⟨rfl, hb⟩; have HS1 := Lib.hid (HS0.out.past hb); clear hb HF0) | (go_at_call 25; (with_reducible refine (HF1.out _).mono ?_); rintro e w2 ⟨rfl, hb⟩; have HS2 := Lib.hid (HS1.out.past hb); clear hb HF1) | (go_at_call 25; (with_reducible refine (HF2.out _).mono ?_); rintro e w3 ⟨rfl, hb⟩; have HS3 := Lib.hid (HS2.out.past hb); clear hb HF2; have HN := Lib.hid HS3.out.both; obtain ⟨⟨⟨c0, c1, c2, c3⟩, f0, f1, f2, f3⟩, n0, n1, n2, n3⟩ := HN.out.cells) | (go_at_call 27; (with_reducible refine (HST.out _).mono ?_); rintro e wx ⟨rfl, rfl⟩))
  exact bodyPost_ret (v := .agg #[.int .i64 0, .int .i64 0, .bool false, .string ⟨#[]⟩]) (by simp [results, Tryd.results11, go_sem, *]) rfl ⟨rfl, below_sign HN.out.below (Nat.le_refl _) _ _ _ _⟩
set_option maxRecDepth 100000 in
set_option maxHeartbeats 8000000 in
theorem refRead_1337x (l : List UInt8) (hl : l.length ≤ 1000) (w : World) (his : (fromL l 1).isSome = false) (g1 : fld1 l = [49, 51, 51, 55]) : Calls Tryd.prog 11 #[.string (bsB l)] w fun e w' => e = .returned (zeroV) ∧ Below w.heap.size w w' := by
  have HS0 := Lib.hid (EA.start w)
  have HF0 := Lib.hid (refField_any l (by omega) 0 (by decide) (w.alloc (.cells #[.int .i64 0, .int .i64 0, .bool false, .string ⟨#[]⟩] 24)))
  change Hid (Calls _ _ #[.string (bsB l), .int .i64 0] _ fun e w' => e = .returned (.tuple #[.string (bsB (fld1 l)), .bool true]) ∧ _) at HF0
  have HF1 : Hid (∀ W, Calls Tryd.prog 25 #[.string (bsB l), .int .i64 1] W fun e w' => e = .returned (.tuple #[.string (bsB (second l)), .bool (fromL l 1).isSome]) ∧ Below W.heap.size W w') := Lib.hid fun W => refField_any l (by omega) 1 (by decide) W
  have HF2 : Hid (∀ W, Calls Tryd.prog 25 #[.string (bsB l), .int .i64 2] W fun e w' => e = .returned (.tuple #[.string (bsB (third l)), .bool (fromL l 2).isSome]) ∧ Below W.heap.size W w') := Lib.hid fun W => refField_any l (by omega) 2 (by decide) W
  have e1 : (bsB (fld1 l)).toList = fld1 l := bs_toList _
  have e2 : (bsB (second l)).toList = second l := bs_toList _
  have er : (bsB (behind l)).toList = behind l := bs_toList _
  obtain ⟨b2, hb2⟩ : ∃ b, b = (fromL l 2).isSome := ⟨_, rfl⟩
  rw [← hb2] at HF2
  rw [his] at HF1
  obtain ⟨hbr, hse⟩ := no_rest his
  unfold zeroV sgV
  have m1 : (bsB (fld1 l)).toList = [49, 51, 51, 55] := by rw [e1, g1]
  have gp : ¬ Lib.hasPrefix [] curT = true := by decide
  have HST : Hid (∀ W, Calls Tryd.prog 27 #[.string ⟨#[]⟩, .string ⟨#[67, 117, 114, 114, 101, 110, 116, 68, 105, 114, 61]⟩] W fun e w' => e = .returned (.tuple #[.string ⟨#[]⟩, .bool false]) ∧ w' = W) := Lib.hid fun W => by
    have h := refStarts_any ([]) curT W
    rw [if_neg gp] at h
    exact h
  clear his e1 e2 er hb2 g1 hbr hse gp
  generalize bsB (fld1 l) = t1 at *
  generalize bsB (second l) = t2 at *
  generalize bsB (third l) = t3 at *
  generalize bsB (behind l) = tr at *
  generalize bsB l = s at *
  go_enter Tryd.func11, Tryd.ntmps11
  go_wp2_with (first | (go_at_call 25; (with_reducible refine (HF0.out).mono ?_); rintro e w1 ⟨rfl, hb⟩; have HS1 := Lib.hid (HS0.out.past hb); clear hb HF0) | (go_at_call 25; (with_reducible refine (HF1.out _).mono ?_); rintro e w2 ⟨rfl, hb⟩; have HS2 := Lib.hid (HS1.out.past hb); clear hb HF1) | (go_at_call 25; (with_reducible refine (HF2.out _).mono ?_); rintro e w3 ⟨rfl, hb⟩; have HS3 := Lib.hid (HS2.out.past hb); clear hb HF2; have HN := Lib.hid HS3.out.both; obtain ⟨⟨⟨c0, c1, c2, c3⟩, f0, f1, f2, f3⟩, n0, n1, n2, n3⟩ := HN.out.cells) | (go_at_call 27; (with_reducible refine (HST.out _).mono ?_); rintro e wx ⟨rfl, rfl⟩))
  exact bodyPost_ret (v := .agg #[.int .i64 0, .int .i64 0, .bool false, .string ⟨#[]⟩]) (by simp [results, Tryd.results11, go_sem, *]) rfl ⟨rfl, below_sign HN.out.below (Nat.le_refl _) _ _ _ _⟩
end Go.Proofs.YtfibbdkfofnojaaDoor
