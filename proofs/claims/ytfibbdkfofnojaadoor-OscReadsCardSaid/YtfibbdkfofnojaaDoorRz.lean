/- The walk of the document's Read, the shells' other ways. Written by mkrx.py. -/
import Derived.Test.YtfibbdkfofnojaaDoorRx
namespace Go.Proofs.YtfibbdkfofnojaaDoor
open Go.RowKit

theorem no_rest2 {l : List UInt8} (h : (fromL l 1).isSome = false) : behind l = [] ∧ second l = [] := by
  have hb : behind l = [] := by
    unfold behind
    cases hf : fromL l 1 with
    | none => rfl
    | some t => rw [hf] at h; cases h
  exact ⟨hb, by unfold second; rw [hb]; rfl⟩
set_option maxRecDepth 100000 in
set_option maxHeartbeats 8000000 in
theorem refRead_133_3n (l : List UInt8) (hl : l.length ≤ 1000) (w : World) (his : (fromL l 1).isSome = true) (g1 : fld1 l = [49, 51, 51]) (v0 : second l ≠ [65]) (v1 : second l ≠ [66]) (v2 : second l ≠ [67]) (g7 : second l = [68]) (gh : (fromL l 2).isSome = false) : Calls Tryd.prog 11 #[.string (bsB l)] w fun e w' => e = .returned (sgV 4 0 false ⟨#[]⟩) ∧ Below w.heap.size w w' := by
  have HS0 := Lib.hid (EA.start w)
  have HF0 := Lib.hid (refField_any l (by omega) 0 (by decide) (w.alloc (.cells #[.int .i64 0, .int .i64 0, .bool false, .string ⟨#[]⟩] 24)))
  change Hid (Calls _ _ #[.string (bsB l), .int .i64 0] _ fun e w' => e = .returned (.tuple #[.string (bsB (fld1 l)), .bool true]) ∧ _) at HF0
  have HF1 : Hid (∀ W, Calls Tryd.prog 25 #[.string (bsB l), .int .i64 1] W fun e w' => e = .returned (.tuple #[.string (bsB (second l)), .bool (fromL l 1).isSome]) ∧ Below W.heap.size W w') := Lib.hid fun W => refField_any l (by omega) 1 (by decide) W
  have HF2 : Hid (∀ W, Calls Tryd.prog 25 #[.string (bsB l), .int .i64 2] W fun e w' => e = .returned (.tuple #[.string (bsB (third l)), .bool (fromL l 2).isSome]) ∧ Below W.heap.size W w') := Lib.hid fun W => refField_any l (by omega) 2 (by decide) W
  have e1 : (bsB (fld1 l)).toList = fld1 l := bs_toList _
  have e2 : (bsB (second l)).toList = second l := bs_toList _
  have er : (bsB (behind l)).toList = behind l := bs_toList _
  obtain ⟨b2, hb2⟩ : ∃ b, b = (fromL l 2).isSome := ⟨_, rfl⟩
  rw [← hb2] at HF2
  rw [his] at HF1
  obtain ⟨hrx, hrl, hrs⟩ := rest_cut his
  rw [gh] at hb2
  subst hb2
  unfold sgV
  have m1 : (bsB (fld1 l)).toList = [49, 51, 51] := by rw [e1, g1]
  have a0 : ((⟨#[65, 66, 67, 68]⟩ : ByteArray).extract 0 1).toList = [65] := by rw [show (⟨#[65, 66, 67, 68]⟩ : ByteArray) = bsB [65, 66, 67, 68] from rfl, bs_extract]; exact bs_toList _
  have a1 : ((⟨#[65, 66, 67, 68]⟩ : ByteArray).extract 1 2).toList = [66] := by rw [show (⟨#[65, 66, 67, 68]⟩ : ByteArray) = bsB [65, 66, 67, 68] from rfl, bs_extract]; exact bs_toList _
  have a2 : ((⟨#[65, 66, 67, 68]⟩ : ByteArray).extract 2 3).toList = [67] := by rw [show (⟨#[65, 66, 67, 68]⟩ : ByteArray) = bsB [65, 66, 67, 68] from rfl, bs_extract]; exact bs_toList _
  have a3 : ((⟨#[65, 66, 67, 68]⟩ : ByteArray).extract 3 4).toList = [68] := by rw [show (⟨#[65, 66, 67, 68]⟩ : ByteArray) = bsB [65, 66, 67, 68] from rfl, bs_extract]; exact bs_toList _
  have u0 : ((bsB (second l)).toList == [65]) = false := by rw [e2]; exact beq_false_of_ne v0
  have u1 : ((bsB (second l)).toList == [66]) = false := by rw [e2]; exact beq_false_of_ne v1
  have u2 : ((bsB (second l)).toList == [67]) = false := by rw [e2]; exact beq_false_of_ne v2
  have m2 : (bsB (second l)).toList = [68] := by rw [e2, g7]
  clear his e1 e2 er  g1 g7 v0 v1 v2 gh
  generalize bsB (fld1 l) = t1 at *
  generalize bsB (second l) = t2 at *
  generalize bsB (third l) = t3 at *
  generalize bsB (behind l) = tr at *
  generalize bsB l = s at *
  go_enter Tryd.func11, Tryd.ntmps11
  go_wp2_with (first | (go_at_call 25; (with_reducible refine (HF0.out).mono ?_); rintro e w1 ⟨rfl, hb⟩; have HS1 := Lib.hid (HS0.out.past hb); clear hb HF0) | (go_at_call 25; (with_reducible refine (HF1.out _).mono ?_); rintro e w2 ⟨rfl, hb⟩; have HS2 := Lib.hid (HS1.out.past hb); clear hb HF1) | (go_at_call 25; (with_reducible refine (HF2.out _).mono ?_); rintro e w3 ⟨rfl, hb⟩; have HS3 := Lib.hid (HS2.out.past hb); clear hb HF2; have HN := Lib.hid HS3.out.both; obtain ⟨⟨⟨c0, c1, c2, c3⟩, f0, f1, f2, f3⟩, n0, n1, n2, n3⟩ := HN.out.cells))
  go_loopw [11] (fun kk wr => ∃ k : Nat, kk = .int .i64 k ∧ k ≤ 3 ∧ wr = w3.alloc (.cells #[.int .i64 0, .int .i64 0, .bool false, .string ⟨#[]⟩] 24)) (fun kk _ => 4 - (intOf kk).toNat)
  case atStart => exact ⟨0, rfl, Nat.zero_le _, rfl⟩
  case round =>
    obtain ⟨k, rfl, hk, rfl⟩ := hrel
    rcases (by omega : k = 0 ∨ k = 1 ∨ k = 2 ∨ k = 3) with rfl | rfl | rfl | rfl
    · go_wp2
      go_roundw
      case rel => exact ⟨1, by go_num, by omega, by first | trivial | rfl⟩
      case measure => simp [intOf]
    · go_wp2
      go_roundw
      case rel => exact ⟨2, by go_num, by omega, by first | trivial | rfl⟩
      case measure => simp [intOf]
    · go_wp2
      go_roundw
      case rel => exact ⟨3, by go_num, by omega, by first | trivial | rfl⟩
      case measure => simp [intOf]
    · have HX := Lib.hid (HN.out.past (belA (Below.refl (w3.alloc (.cells #[.int .i64 0, .int .i64 0, .bool false, .string ⟨#[]⟩] 24)).heap.size (w3.alloc (.cells #[.int .i64 0, .int .i64 0, .bool false, .string ⟨#[]⟩] 24))) (.cells #[.int .i64 4, .int .i64 0, .bool false, .string ⟨#[]⟩] 24)))
      obtain ⟨⟨⟨d0, d1, d2, d3⟩, i0, i1, i2, i3⟩, _⟩ := HX.out.cells
      have hne : w.heap.size ≠ w3.heap.size + 1 := by have := HS3.out.below.size; omega
      go_wp2
      exact bodyPost_ret (v := .agg #[.int .i64 4, .int .i64 0, .bool false, .string ⟨#[]⟩]) (by simp [results, Tryd.results11, go_sem, *]) rfl ⟨rfl, below_sign HX.out.below (Nat.le_refl _) _ _ _ _⟩
set_option maxRecDepth 100000 in
set_option maxHeartbeats 8000000 in
theorem refRead_133_3y (l : List UInt8) (hl : l.length ≤ 1000) (w : World) (his : (fromL l 1).isSome = true) (g1 : fld1 l = [49, 51, 51]) (v0 : second l ≠ [65]) (v1 : second l ≠ [66]) (v2 : second l ≠ [67]) (g7 : second l = [68]) (gh : (fromL l 2).isSome = true) : Calls Tryd.prog 11 #[.string (bsB l)] w fun e w' => e = .returned (sgV 4 (codeP (third l)).1 (codeP (third l)).2 ⟨#[]⟩) ∧ Below w.heap.size w w' := by
  have HS0 := Lib.hid (EA.start w)
  have HF0 := Lib.hid (refField_any l (by omega) 0 (by decide) (w.alloc (.cells #[.int .i64 0, .int .i64 0, .bool false, .string ⟨#[]⟩] 24)))
  change Hid (Calls _ _ #[.string (bsB l), .int .i64 0] _ fun e w' => e = .returned (.tuple #[.string (bsB (fld1 l)), .bool true]) ∧ _) at HF0
  have HF1 : Hid (∀ W, Calls Tryd.prog 25 #[.string (bsB l), .int .i64 1] W fun e w' => e = .returned (.tuple #[.string (bsB (second l)), .bool (fromL l 1).isSome]) ∧ Below W.heap.size W w') := Lib.hid fun W => refField_any l (by omega) 1 (by decide) W
  have HF2 : Hid (∀ W, Calls Tryd.prog 25 #[.string (bsB l), .int .i64 2] W fun e w' => e = .returned (.tuple #[.string (bsB (third l)), .bool (fromL l 2).isSome]) ∧ Below W.heap.size W w') := Lib.hid fun W => refField_any l (by omega) 2 (by decide) W
  have e1 : (bsB (fld1 l)).toList = fld1 l := bs_toList _
  have e2 : (bsB (second l)).toList = second l := bs_toList _
  have er : (bsB (behind l)).toList = behind l := bs_toList _
  obtain ⟨b2, hb2⟩ : ∃ b, b = (fromL l 2).isSome := ⟨_, rfl⟩
  rw [← hb2] at HF2
  rw [his] at HF1
  obtain ⟨hrx, hrl, hrs⟩ := rest_cut his
  rw [gh] at hb2
  subst hb2
  unfold sgV
  have m1 : (bsB (fld1 l)).toList = [49, 51, 51] := by rw [e1, g1]
  have a0 : ((⟨#[65, 66, 67, 68]⟩ : ByteArray).extract 0 1).toList = [65] := by rw [show (⟨#[65, 66, 67, 68]⟩ : ByteArray) = bsB [65, 66, 67, 68] from rfl, bs_extract]; exact bs_toList _
  have a1 : ((⟨#[65, 66, 67, 68]⟩ : ByteArray).extract 1 2).toList = [66] := by rw [show (⟨#[65, 66, 67, 68]⟩ : ByteArray) = bsB [65, 66, 67, 68] from rfl, bs_extract]; exact bs_toList _
  have a2 : ((⟨#[65, 66, 67, 68]⟩ : ByteArray).extract 2 3).toList = [67] := by rw [show (⟨#[65, 66, 67, 68]⟩ : ByteArray) = bsB [65, 66, 67, 68] from rfl, bs_extract]; exact bs_toList _
  have a3 : ((⟨#[65, 66, 67, 68]⟩ : ByteArray).extract 3 4).toList = [68] := by rw [show (⟨#[65, 66, 67, 68]⟩ : ByteArray) = bsB [65, 66, 67, 68] from rfl, bs_extract]; exact bs_toList _
  have u0 : ((bsB (second l)).toList == [65]) = false := by rw [e2]; exact beq_false_of_ne v0
  have u1 : ((bsB (second l)).toList == [66]) = false := by rw [e2]; exact beq_false_of_ne v1
  have u2 : ((bsB (second l)).toList == [67]) = false := by rw [e2]; exact beq_false_of_ne v2
  have m2 : (bsB (second l)).toList = [68] := by rw [e2, g7]
  have h3 := third_len l
  have HCD : Hid (∀ W, Calls Tryd.prog 19 #[.string (bsB (third l))] W fun e w' => e = .returned (.tuple #[.int .i64 (codeP (third l)).1, .bool (codeP (third l)).2]) ∧ Below W.heap.size W w') := Lib.hid fun W => by
    have h := refCode_any (third l) (by omega) W
    rwa [codeV_eq] at h
  clear his e1 e2 er  g1 g7 v0 v1 v2 gh
  generalize (codeP (third l)).1 = z at *
  generalize (codeP (third l)).2 = hh at *
  generalize bsB (fld1 l) = t1 at *
  generalize bsB (second l) = t2 at *
  generalize bsB (third l) = t3 at *
  generalize bsB (behind l) = tr at *
  generalize bsB l = s at *
  go_enter Tryd.func11, Tryd.ntmps11
  go_wp2_with (first | (go_at_call 25; (with_reducible refine (HF0.out).mono ?_); rintro e w1 ⟨rfl, hb⟩; have HS1 := Lib.hid (HS0.out.past hb); clear hb HF0) | (go_at_call 25; (with_reducible refine (HF1.out _).mono ?_); rintro e w2 ⟨rfl, hb⟩; have HS2 := Lib.hid (HS1.out.past hb); clear hb HF1) | (go_at_call 25; (with_reducible refine (HF2.out _).mono ?_); rintro e w3 ⟨rfl, hb⟩; have HS3 := Lib.hid (HS2.out.past hb); clear hb HF2; have HN := Lib.hid HS3.out.both; obtain ⟨⟨⟨c0, c1, c2, c3⟩, f0, f1, f2, f3⟩, n0, n1, n2, n3⟩ := HN.out.cells))
  go_loopw [11] (fun kk wr => ∃ k : Nat, kk = .int .i64 k ∧ k ≤ 3 ∧ wr = w3.alloc (.cells #[.int .i64 0, .int .i64 0, .bool false, .string ⟨#[]⟩] 24)) (fun kk _ => 4 - (intOf kk).toNat)
  case atStart => exact ⟨0, rfl, Nat.zero_le _, rfl⟩
  case round =>
    obtain ⟨k, rfl, hk, rfl⟩ := hrel
    rcases (by omega : k = 0 ∨ k = 1 ∨ k = 2 ∨ k = 3) with rfl | rfl | rfl | rfl
    · go_wp2
      go_roundw
      case rel => exact ⟨1, by go_num, by omega, by first | trivial | rfl⟩
      case measure => simp [intOf]
    · go_wp2
      go_roundw
      case rel => exact ⟨2, by go_num, by omega, by first | trivial | rfl⟩
      case measure => simp [intOf]
    · go_wp2
      go_roundw
      case rel => exact ⟨3, by go_num, by omega, by first | trivial | rfl⟩
      case measure => simp [intOf]
    · have HX := Lib.hid (HN.out.past (belA (Below.refl (w3.alloc (.cells #[.int .i64 0, .int .i64 0, .bool false, .string ⟨#[]⟩] 24)).heap.size (w3.alloc (.cells #[.int .i64 0, .int .i64 0, .bool false, .string ⟨#[]⟩] 24))) (.cells #[.int .i64 4, .int .i64 0, .bool false, .string ⟨#[]⟩] 24)))
      obtain ⟨⟨⟨d0, d1, d2, d3⟩, i0, i1, i2, i3⟩, _⟩ := HX.out.cells
      have hne : w.heap.size ≠ w3.heap.size + 1 := by have := HS3.out.below.size; omega
      have HXB : Hid (((w3.alloc (.cells #[.int .i64 0, .int .i64 0, .bool false, .string ⟨#[]⟩] 24)).alloc (.cells #[.int .i64 4, .int .i64 0, .bool false, .string ⟨#[]⟩] 24)).heap[w3.heap.size + 1]? = some (.cells #[.int .i64 4, .int .i64 0, .bool false, .string ⟨#[]⟩] 24 (0, 0))) := Lib.hid (by have h := heap_alloc_new (w3.alloc (.cells #[.int .i64 0, .int .i64 0, .bool false, .string ⟨#[]⟩] 24)) (.cells #[.int .i64 4, .int .i64 0, .bool false, .string ⟨#[]⟩] 24); simpa using h)
      go_wp2_with (go_at_call 19; (with_reducible refine (HCD.out _).mono ?_); rintro e wx ⟨rfl, hb⟩; have HXC := Lib.hid ((hb.block _ (Array.getElem?_eq_some_iff.1 HXB.out).1).trans HXB.out); have HX := Lib.hid (HX.out.past hb); clear d0 d1 d2 d3 i0 i1 i2 i3; obtain ⟨⟨⟨d0, d1, d2, d3⟩, i0, i1, i2, i3⟩, _⟩ := HX.out.cells; obtain ⟨⟨x0, x1, x2, x3⟩, y0, y1, y2, y3⟩ := sign_cells HXC.out; clear hb)
      exact bodyPost_ret (v := .agg #[.int .i64 4, .int .i64 z, .bool hh, .string ⟨#[]⟩]) (by simp [results, Tryd.results11, go_sem, *]) rfl ⟨rfl, below_sign ((HX.out.below.setCell (p := ⟨w3.heap.size + 1, 1, none⟩) (by have := HS3.out.below.size; show w.heap.size ≤ w3.heap.size + 1; omega) _).setCell (p := ⟨w3.heap.size + 1, 2, none⟩) (by have := HS3.out.below.size; show w.heap.size ≤ w3.heap.size + 1; omega) _) (Nat.le_refl _) _ _ _ _⟩
set_option maxRecDepth 100000 in
set_option maxHeartbeats 8000000 in
theorem refRead_133x (l : List UInt8) (hl : l.length ≤ 1000) (w : World) (his : (fromL l 1).isSome = false) (g1 : fld1 l = [49, 51, 51]) : Calls Tryd.prog 11 #[.string (bsB l)] w fun e w' => e = .returned (zeroV) ∧ Below w.heap.size w w' := by
  have HS0 := Lib.hid (EA.start w)
  have HF0 := Lib.hid (refField_any l (by omega) 0 (by decide) (w.alloc (.cells #[.int .i64 0, .int .i64 0, .bool false, .string ⟨#[]⟩] 24)))
  change Hid (Calls _ _ #[.string (bsB l), .int .i64 0] _ fun e w' => e = .returned (.tuple #[.string (bsB (fld1 l)), .bool true]) ∧ _) at HF0
  have HF1 : Hid (∀ W, Calls Tryd.prog 25 #[.string (bsB l), .int .i64 1] W fun e w' => e = .returned (.tuple #[.string (bsB (second l)), .bool (fromL l 1).isSome]) ∧ Below W.heap.size W w') := Lib.hid fun W => refField_any l (by omega) 1 (by decide) W
  have HF2 : Hid (∀ W, Calls Tryd.prog 25 #[.string (bsB l), .int .i64 2] W fun e w' => e = .returned (.tuple #[.string (bsB (third l)), .bool (fromL l 2).isSome]) ∧ Below W.heap.size W w') := Lib.hid fun W => refField_any l (by omega) 2 (by decide) W
  have e1 : (bsB (fld1 l)).toList = fld1 l := bs_toList _
  have e2 : (bsB (second l)).toList = second l := bs_toList _
  have er : (bsB (behind l)).toList = behind l := bs_toList _
  obtain ⟨b2, hb2⟩ : ∃ b, b = (fromL l 2).isSome := ⟨_, rfl⟩
  rw [← hb2] at HF2
  rw [his] at HF1
  obtain ⟨hbr, hse⟩ := no_rest2 his
  unfold zeroV sgV
  have m1 : (bsB (fld1 l)).toList = [49, 51, 51] := by rw [e1, g1]
  have a0 : ((⟨#[65, 66, 67, 68]⟩ : ByteArray).extract 0 1).toList = [65] := by rw [show (⟨#[65, 66, 67, 68]⟩ : ByteArray) = bsB [65, 66, 67, 68] from rfl, bs_extract]; exact bs_toList _
  have a1 : ((⟨#[65, 66, 67, 68]⟩ : ByteArray).extract 1 2).toList = [66] := by rw [show (⟨#[65, 66, 67, 68]⟩ : ByteArray) = bsB [65, 66, 67, 68] from rfl, bs_extract]; exact bs_toList _
  have a2 : ((⟨#[65, 66, 67, 68]⟩ : ByteArray).extract 2 3).toList = [67] := by rw [show (⟨#[65, 66, 67, 68]⟩ : ByteArray) = bsB [65, 66, 67, 68] from rfl, bs_extract]; exact bs_toList _
  have a3 : ((⟨#[65, 66, 67, 68]⟩ : ByteArray).extract 3 4).toList = [68] := by rw [show (⟨#[65, 66, 67, 68]⟩ : ByteArray) = bsB [65, 66, 67, 68] from rfl, bs_extract]; exact bs_toList _
  have u0 : ((bsB (second l)).toList == [65]) = false := by rw [e2, hse]; decide
  have u1 : ((bsB (second l)).toList == [66]) = false := by rw [e2, hse]; decide
  have u2 : ((bsB (second l)).toList == [67]) = false := by rw [e2, hse]; decide
  have u3 : ((bsB (second l)).toList == [68]) = false := by rw [e2, hse]; decide
  have u5 : ((bsB (second l)).toList == [69]) = false := by rw [e2, hse]; decide
  have u6 : ((bsB (second l)).toList == [80]) = false := by rw [e2, hse]; decide
  clear his e1 e2 er hb2 g1 hbr hse
  generalize bsB (fld1 l) = t1 at *
  generalize bsB (second l) = t2 at *
  generalize bsB (third l) = t3 at *
  generalize bsB (behind l) = tr at *
  generalize bsB l = s at *
  go_enter Tryd.func11, Tryd.ntmps11
  go_wp2_with (first | (go_at_call 25; (with_reducible refine (HF0.out).mono ?_); rintro e w1 ⟨rfl, hb⟩; have HS1 := Lib.hid (HS0.out.past hb); clear hb HF0) | (go_at_call 25; (with_reducible refine (HF1.out _).mono ?_); rintro e w2 ⟨rfl, hb⟩; have HS2 := Lib.hid (HS1.out.past hb); clear hb HF1) | (go_at_call 25; (with_reducible refine (HF2.out _).mono ?_); rintro e w3 ⟨rfl, hb⟩; have HS3 := Lib.hid (HS2.out.past hb); clear hb HF2; have HN := Lib.hid HS3.out.both; obtain ⟨⟨⟨c0, c1, c2, c3⟩, f0, f1, f2, f3⟩, n0, n1, n2, n3⟩ := HN.out.cells))
  go_loopw [11] (fun kk wr => ∃ k : Nat, kk = .int .i64 k ∧ k ≤ 4 ∧ wr = w3.alloc (.cells #[.int .i64 0, .int .i64 0, .bool false, .string ⟨#[]⟩] 24)) (fun kk _ => 4 - (intOf kk).toNat)
  case atStart => exact ⟨0, rfl, Nat.zero_le _, rfl⟩
  case round =>
    obtain ⟨k, rfl, hk, rfl⟩ := hrel
    rcases (by omega : k = 0 ∨ k = 1 ∨ k = 2 ∨ k = 3 ∨ k = 4) with rfl | rfl | rfl | rfl | rfl
    · go_wp2
      go_roundw
      case rel => exact ⟨1, by go_num, by omega, by first | trivial | rfl⟩
      case measure => simp [intOf]
    · go_wp2
      go_roundw
      case rel => exact ⟨2, by go_num, by omega, by first | trivial | rfl⟩
      case measure => simp [intOf]
    · go_wp2
      go_roundw
      case rel => exact ⟨3, by go_num, by omega, by first | trivial | rfl⟩
      case measure => simp [intOf]
    · go_wp2
      go_roundw
      case rel => exact ⟨4, by go_num, by omega, by first | trivial | rfl⟩
      case measure => simp [intOf]
    · go_wp2
      exact bodyPost_ret (v := .agg #[.int .i64 0, .int .i64 0, .bool false, .string ⟨#[]⟩]) (by simp [results, Tryd.results11, go_sem, *]) rfl ⟨rfl, below_sign HN.out.below (Nat.le_refl _) _ _ _ _⟩
set_option maxRecDepth 100000 in
set_option maxHeartbeats 8000000 in
theorem refRead_133_n (l : List UInt8) (hl : l.length ≤ 1000) (w : World) (his : (fromL l 1).isSome = true) (g1 : fld1 l = [49, 51, 51]) (v0 : second l ≠ [65]) (v1 : second l ≠ [66]) (v2 : second l ≠ [67]) (v3 : second l ≠ [68]) : Calls Tryd.prog 11 #[.string (bsB l)] w fun e w' => e = .returned (zeroV) ∧ Below w.heap.size w w' := by
  have HS0 := Lib.hid (EA.start w)
  have HF0 := Lib.hid (refField_any l (by omega) 0 (by decide) (w.alloc (.cells #[.int .i64 0, .int .i64 0, .bool false, .string ⟨#[]⟩] 24)))
  change Hid (Calls _ _ #[.string (bsB l), .int .i64 0] _ fun e w' => e = .returned (.tuple #[.string (bsB (fld1 l)), .bool true]) ∧ _) at HF0
  have HF1 : Hid (∀ W, Calls Tryd.prog 25 #[.string (bsB l), .int .i64 1] W fun e w' => e = .returned (.tuple #[.string (bsB (second l)), .bool (fromL l 1).isSome]) ∧ Below W.heap.size W w') := Lib.hid fun W => refField_any l (by omega) 1 (by decide) W
  have HF2 : Hid (∀ W, Calls Tryd.prog 25 #[.string (bsB l), .int .i64 2] W fun e w' => e = .returned (.tuple #[.string (bsB (third l)), .bool (fromL l 2).isSome]) ∧ Below W.heap.size W w') := Lib.hid fun W => refField_any l (by omega) 2 (by decide) W
  have e1 : (bsB (fld1 l)).toList = fld1 l := bs_toList _
  have e2 : (bsB (second l)).toList = second l := bs_toList _
  have er : (bsB (behind l)).toList = behind l := bs_toList _
  obtain ⟨b2, hb2⟩ : ∃ b, b = (fromL l 2).isSome := ⟨_, rfl⟩
  rw [← hb2] at HF2
  rw [his] at HF1
  obtain ⟨hrx, hrl, hrs⟩ := rest_cut his
  unfold zeroV sgV
  have m1 : (bsB (fld1 l)).toList = [49, 51, 51] := by rw [e1, g1]
  have a0 : ((⟨#[65, 66, 67, 68]⟩ : ByteArray).extract 0 1).toList = [65] := by rw [show (⟨#[65, 66, 67, 68]⟩ : ByteArray) = bsB [65, 66, 67, 68] from rfl, bs_extract]; exact bs_toList _
  have a1 : ((⟨#[65, 66, 67, 68]⟩ : ByteArray).extract 1 2).toList = [66] := by rw [show (⟨#[65, 66, 67, 68]⟩ : ByteArray) = bsB [65, 66, 67, 68] from rfl, bs_extract]; exact bs_toList _
  have a2 : ((⟨#[65, 66, 67, 68]⟩ : ByteArray).extract 2 3).toList = [67] := by rw [show (⟨#[65, 66, 67, 68]⟩ : ByteArray) = bsB [65, 66, 67, 68] from rfl, bs_extract]; exact bs_toList _
  have a3 : ((⟨#[65, 66, 67, 68]⟩ : ByteArray).extract 3 4).toList = [68] := by rw [show (⟨#[65, 66, 67, 68]⟩ : ByteArray) = bsB [65, 66, 67, 68] from rfl, bs_extract]; exact bs_toList _
  have u0 : ((bsB (second l)).toList == [65]) = false := by rw [e2]; exact beq_false_of_ne v0
  have u1 : ((bsB (second l)).toList == [66]) = false := by rw [e2]; exact beq_false_of_ne v1
  have u2 : ((bsB (second l)).toList == [67]) = false := by rw [e2]; exact beq_false_of_ne v2
  have u3 : ((bsB (second l)).toList == [68]) = false := by rw [e2]; exact beq_false_of_ne v3
  clear his e1 e2 er hb2 g1 v0 v1 v2 v3
  generalize bsB (fld1 l) = t1 at *
  generalize bsB (second l) = t2 at *
  generalize bsB (third l) = t3 at *
  generalize bsB (behind l) = tr at *
  generalize bsB l = s at *
  go_enter Tryd.func11, Tryd.ntmps11
  go_wp2_with (first | (go_at_call 25; (with_reducible refine (HF0.out).mono ?_); rintro e w1 ⟨rfl, hb⟩; have HS1 := Lib.hid (HS0.out.past hb); clear hb HF0) | (go_at_call 25; (with_reducible refine (HF1.out _).mono ?_); rintro e w2 ⟨rfl, hb⟩; have HS2 := Lib.hid (HS1.out.past hb); clear hb HF1) | (go_at_call 25; (with_reducible refine (HF2.out _).mono ?_); rintro e w3 ⟨rfl, hb⟩; have HS3 := Lib.hid (HS2.out.past hb); clear hb HF2; have HN := Lib.hid HS3.out.both; obtain ⟨⟨⟨c0, c1, c2, c3⟩, f0, f1, f2, f3⟩, n0, n1, n2, n3⟩ := HN.out.cells))
  go_loopw [11] (fun kk wr => ∃ k : Nat, kk = .int .i64 k ∧ k ≤ 4 ∧ wr = w3.alloc (.cells #[.int .i64 0, .int .i64 0, .bool false, .string ⟨#[]⟩] 24)) (fun kk _ => 4 - (intOf kk).toNat)
  case atStart => exact ⟨0, rfl, Nat.zero_le _, rfl⟩
  case round =>
    obtain ⟨k, rfl, hk, rfl⟩ := hrel
    rcases (by omega : k = 0 ∨ k = 1 ∨ k = 2 ∨ k = 3 ∨ k = 4) with rfl | rfl | rfl | rfl | rfl
    · go_wp2
      go_roundw
      case rel => exact ⟨1, by go_num, by omega, by first | trivial | rfl⟩
      case measure => simp [intOf]
    · go_wp2
      go_roundw
      case rel => exact ⟨2, by go_num, by omega, by first | trivial | rfl⟩
      case measure => simp [intOf]
    · go_wp2
      go_roundw
      case rel => exact ⟨3, by go_num, by omega, by first | trivial | rfl⟩
      case measure => simp [intOf]
    · go_wp2
      go_roundw
      case rel => exact ⟨4, by go_num, by omega, by first | trivial | rfl⟩
      case measure => simp [intOf]
    · go_wp2
      exact bodyPost_ret (v := .agg #[.int .i64 0, .int .i64 0, .bool false, .string ⟨#[]⟩]) (by simp [results, Tryd.results11, go_sem, *]) rfl ⟨rfl, below_sign HN.out.below (Nat.le_refl _) _ _ _ _⟩
set_option maxRecDepth 100000 in
set_option maxHeartbeats 8000000 in
theorem refRead_633_3n (l : List UInt8) (hl : l.length ≤ 1000) (w : World) (his : (fromL l 1).isSome = true) (g1 : fld1 l = [54, 51, 51]) (v0 : second l ≠ [65]) (v1 : second l ≠ [66]) (v2 : second l ≠ [67]) (g7 : second l = [68]) (gh : (fromL l 2).isSome = false) : Calls Tryd.prog 11 #[.string (bsB l)] w fun e w' => e = .returned (sgV 4 0 false ⟨#[]⟩) ∧ Below w.heap.size w w' := by
  have HS0 := Lib.hid (EA.start w)
  have HF0 := Lib.hid (refField_any l (by omega) 0 (by decide) (w.alloc (.cells #[.int .i64 0, .int .i64 0, .bool false, .string ⟨#[]⟩] 24)))
  change Hid (Calls _ _ #[.string (bsB l), .int .i64 0] _ fun e w' => e = .returned (.tuple #[.string (bsB (fld1 l)), .bool true]) ∧ _) at HF0
  have HF1 : Hid (∀ W, Calls Tryd.prog 25 #[.string (bsB l), .int .i64 1] W fun e w' => e = .returned (.tuple #[.string (bsB (second l)), .bool (fromL l 1).isSome]) ∧ Below W.heap.size W w') := Lib.hid fun W => refField_any l (by omega) 1 (by decide) W
  have HF2 : Hid (∀ W, Calls Tryd.prog 25 #[.string (bsB l), .int .i64 2] W fun e w' => e = .returned (.tuple #[.string (bsB (third l)), .bool (fromL l 2).isSome]) ∧ Below W.heap.size W w') := Lib.hid fun W => refField_any l (by omega) 2 (by decide) W
  have e1 : (bsB (fld1 l)).toList = fld1 l := bs_toList _
  have e2 : (bsB (second l)).toList = second l := bs_toList _
  have er : (bsB (behind l)).toList = behind l := bs_toList _
  obtain ⟨b2, hb2⟩ : ∃ b, b = (fromL l 2).isSome := ⟨_, rfl⟩
  rw [← hb2] at HF2
  rw [his] at HF1
  obtain ⟨hrx, hrl, hrs⟩ := rest_cut his
  rw [gh] at hb2
  subst hb2
  unfold sgV
  have m1 : (bsB (fld1 l)).toList = [54, 51, 51] := by rw [e1, g1]
  have a0 : ((⟨#[65, 66, 67, 68]⟩ : ByteArray).extract 0 1).toList = [65] := by rw [show (⟨#[65, 66, 67, 68]⟩ : ByteArray) = bsB [65, 66, 67, 68] from rfl, bs_extract]; exact bs_toList _
  have a1 : ((⟨#[65, 66, 67, 68]⟩ : ByteArray).extract 1 2).toList = [66] := by rw [show (⟨#[65, 66, 67, 68]⟩ : ByteArray) = bsB [65, 66, 67, 68] from rfl, bs_extract]; exact bs_toList _
  have a2 : ((⟨#[65, 66, 67, 68]⟩ : ByteArray).extract 2 3).toList = [67] := by rw [show (⟨#[65, 66, 67, 68]⟩ : ByteArray) = bsB [65, 66, 67, 68] from rfl, bs_extract]; exact bs_toList _
  have a3 : ((⟨#[65, 66, 67, 68]⟩ : ByteArray).extract 3 4).toList = [68] := by rw [show (⟨#[65, 66, 67, 68]⟩ : ByteArray) = bsB [65, 66, 67, 68] from rfl, bs_extract]; exact bs_toList _
  have u0 : ((bsB (second l)).toList == [65]) = false := by rw [e2]; exact beq_false_of_ne v0
  have u1 : ((bsB (second l)).toList == [66]) = false := by rw [e2]; exact beq_false_of_ne v1
  have u2 : ((bsB (second l)).toList == [67]) = false := by rw [e2]; exact beq_false_of_ne v2
  have m2 : (bsB (second l)).toList = [68] := by rw [e2, g7]
  clear his e1 e2 er  g1 g7 v0 v1 v2 gh
  generalize bsB (fld1 l) = t1 at *
  generalize bsB (second l) = t2 at *
  generalize bsB (third l) = t3 at *
  generalize bsB (behind l) = tr at *
  generalize bsB l = s at *
  go_enter Tryd.func11, Tryd.ntmps11
  go_wp2_with (first | (go_at_call 25; (with_reducible refine (HF0.out).mono ?_); rintro e w1 ⟨rfl, hb⟩; have HS1 := Lib.hid (HS0.out.past hb); clear hb HF0) | (go_at_call 25; (with_reducible refine (HF1.out _).mono ?_); rintro e w2 ⟨rfl, hb⟩; have HS2 := Lib.hid (HS1.out.past hb); clear hb HF1) | (go_at_call 25; (with_reducible refine (HF2.out _).mono ?_); rintro e w3 ⟨rfl, hb⟩; have HS3 := Lib.hid (HS2.out.past hb); clear hb HF2; have HN := Lib.hid HS3.out.both; obtain ⟨⟨⟨c0, c1, c2, c3⟩, f0, f1, f2, f3⟩, n0, n1, n2, n3⟩ := HN.out.cells))
  go_loopw [11] (fun kk wr => ∃ k : Nat, kk = .int .i64 k ∧ k ≤ 3 ∧ wr = w3.alloc (.cells #[.int .i64 0, .int .i64 0, .bool false, .string ⟨#[]⟩] 24)) (fun kk _ => 4 - (intOf kk).toNat)
  case atStart => exact ⟨0, rfl, Nat.zero_le _, rfl⟩
  case round =>
    obtain ⟨k, rfl, hk, rfl⟩ := hrel
    rcases (by omega : k = 0 ∨ k = 1 ∨ k = 2 ∨ k = 3) with rfl | rfl | rfl | rfl
    · go_wp2
      go_roundw
      case rel => exact ⟨1, by go_num, by omega, by first | trivial | rfl⟩
      case measure => simp [intOf]
    · go_wp2
      go_roundw
      case rel => exact ⟨2, by go_num, by omega, by first | trivial | rfl⟩
      case measure => simp [intOf]
    · go_wp2
      go_roundw
      case rel => exact ⟨3, by go_num, by omega, by first | trivial | rfl⟩
      case measure => simp [intOf]
    · have HX := Lib.hid (HN.out.past (belA (Below.refl (w3.alloc (.cells #[.int .i64 0, .int .i64 0, .bool false, .string ⟨#[]⟩] 24)).heap.size (w3.alloc (.cells #[.int .i64 0, .int .i64 0, .bool false, .string ⟨#[]⟩] 24))) (.cells #[.int .i64 4, .int .i64 0, .bool false, .string ⟨#[]⟩] 24)))
      obtain ⟨⟨⟨d0, d1, d2, d3⟩, i0, i1, i2, i3⟩, _⟩ := HX.out.cells
      have hne : w.heap.size ≠ w3.heap.size + 1 := by have := HS3.out.below.size; omega
      go_wp2
      exact bodyPost_ret (v := .agg #[.int .i64 4, .int .i64 0, .bool false, .string ⟨#[]⟩]) (by simp [results, Tryd.results11, go_sem, *]) rfl ⟨rfl, below_sign HX.out.below (Nat.le_refl _) _ _ _ _⟩
set_option maxRecDepth 100000 in
set_option maxHeartbeats 8000000 in
theorem refRead_633_3y (l : List UInt8) (hl : l.length ≤ 1000) (w : World) (his : (fromL l 1).isSome = true) (g1 : fld1 l = [54, 51, 51]) (v0 : second l ≠ [65]) (v1 : second l ≠ [66]) (v2 : second l ≠ [67]) (g7 : second l = [68]) (gh : (fromL l 2).isSome = true) : Calls Tryd.prog 11 #[.string (bsB l)] w fun e w' => e = .returned (sgV 4 (codeP (third l)).1 (codeP (third l)).2 ⟨#[]⟩) ∧ Below w.heap.size w w' := by
  have HS0 := Lib.hid (EA.start w)
  have HF0 := Lib.hid (refField_any l (by omega) 0 (by decide) (w.alloc (.cells #[.int .i64 0, .int .i64 0, .bool false, .string ⟨#[]⟩] 24)))
  change Hid (Calls _ _ #[.string (bsB l), .int .i64 0] _ fun e w' => e = .returned (.tuple #[.string (bsB (fld1 l)), .bool true]) ∧ _) at HF0
  have HF1 : Hid (∀ W, Calls Tryd.prog 25 #[.string (bsB l), .int .i64 1] W fun e w' => e = .returned (.tuple #[.string (bsB (second l)), .bool (fromL l 1).isSome]) ∧ Below W.heap.size W w') := Lib.hid fun W => refField_any l (by omega) 1 (by decide) W
  have HF2 : Hid (∀ W, Calls Tryd.prog 25 #[.string (bsB l), .int .i64 2] W fun e w' => e = .returned (.tuple #[.string (bsB (third l)), .bool (fromL l 2).isSome]) ∧ Below W.heap.size W w') := Lib.hid fun W => refField_any l (by omega) 2 (by decide) W
  have e1 : (bsB (fld1 l)).toList = fld1 l := bs_toList _
  have e2 : (bsB (second l)).toList = second l := bs_toList _
  have er : (bsB (behind l)).toList = behind l := bs_toList _
  obtain ⟨b2, hb2⟩ : ∃ b, b = (fromL l 2).isSome := ⟨_, rfl⟩
  rw [← hb2] at HF2
  rw [his] at HF1
  obtain ⟨hrx, hrl, hrs⟩ := rest_cut his
  rw [gh] at hb2
  subst hb2
  unfold sgV
  have m1 : (bsB (fld1 l)).toList = [54, 51, 51] := by rw [e1, g1]
  have a0 : ((⟨#[65, 66, 67, 68]⟩ : ByteArray).extract 0 1).toList = [65] := by rw [show (⟨#[65, 66, 67, 68]⟩ : ByteArray) = bsB [65, 66, 67, 68] from rfl, bs_extract]; exact bs_toList _
  have a1 : ((⟨#[65, 66, 67, 68]⟩ : ByteArray).extract 1 2).toList = [66] := by rw [show (⟨#[65, 66, 67, 68]⟩ : ByteArray) = bsB [65, 66, 67, 68] from rfl, bs_extract]; exact bs_toList _
  have a2 : ((⟨#[65, 66, 67, 68]⟩ : ByteArray).extract 2 3).toList = [67] := by rw [show (⟨#[65, 66, 67, 68]⟩ : ByteArray) = bsB [65, 66, 67, 68] from rfl, bs_extract]; exact bs_toList _
  have a3 : ((⟨#[65, 66, 67, 68]⟩ : ByteArray).extract 3 4).toList = [68] := by rw [show (⟨#[65, 66, 67, 68]⟩ : ByteArray) = bsB [65, 66, 67, 68] from rfl, bs_extract]; exact bs_toList _
  have u0 : ((bsB (second l)).toList == [65]) = false := by rw [e2]; exact beq_false_of_ne v0
  have u1 : ((bsB (second l)).toList == [66]) = false := by rw [e2]; exact beq_false_of_ne v1
  have u2 : ((bsB (second l)).toList == [67]) = false := by rw [e2]; exact beq_false_of_ne v2
  have m2 : (bsB (second l)).toList = [68] := by rw [e2, g7]
  have h3 := third_len l
  have HCD : Hid (∀ W, Calls Tryd.prog 19 #[.string (bsB (third l))] W fun e w' => e = .returned (.tuple #[.int .i64 (codeP (third l)).1, .bool (codeP (third l)).2]) ∧ Below W.heap.size W w') := Lib.hid fun W => by
    have h := refCode_any (third l) (by omega) W
    rwa [codeV_eq] at h
  clear his e1 e2 er  g1 g7 v0 v1 v2 gh
  generalize (codeP (third l)).1 = z at *
  generalize (codeP (third l)).2 = hh at *
  generalize bsB (fld1 l) = t1 at *
  generalize bsB (second l) = t2 at *
  generalize bsB (third l) = t3 at *
  generalize bsB (behind l) = tr at *
  generalize bsB l = s at *
  go_enter Tryd.func11, Tryd.ntmps11
  go_wp2_with (first | (go_at_call 25; (with_reducible refine (HF0.out).mono ?_); rintro e w1 ⟨rfl, hb⟩; have HS1 := Lib.hid (HS0.out.past hb); clear hb HF0) | (go_at_call 25; (with_reducible refine (HF1.out _).mono ?_); rintro e w2 ⟨rfl, hb⟩; have HS2 := Lib.hid (HS1.out.past hb); clear hb HF1) | (go_at_call 25; (with_reducible refine (HF2.out _).mono ?_); rintro e w3 ⟨rfl, hb⟩; have HS3 := Lib.hid (HS2.out.past hb); clear hb HF2; have HN := Lib.hid HS3.out.both; obtain ⟨⟨⟨c0, c1, c2, c3⟩, f0, f1, f2, f3⟩, n0, n1, n2, n3⟩ := HN.out.cells))
  go_loopw [11] (fun kk wr => ∃ k : Nat, kk = .int .i64 k ∧ k ≤ 3 ∧ wr = w3.alloc (.cells #[.int .i64 0, .int .i64 0, .bool false, .string ⟨#[]⟩] 24)) (fun kk _ => 4 - (intOf kk).toNat)
  case atStart => exact ⟨0, rfl, Nat.zero_le _, rfl⟩
  case round =>
    obtain ⟨k, rfl, hk, rfl⟩ := hrel
    rcases (by omega : k = 0 ∨ k = 1 ∨ k = 2 ∨ k = 3) with rfl | rfl | rfl | rfl
    · go_wp2
      go_roundw
      case rel => exact ⟨1, by go_num, by omega, by first | trivial | rfl⟩
      case measure => simp [intOf]
    · go_wp2
      go_roundw
      case rel => exact ⟨2, by go_num, by omega, by first | trivial | rfl⟩
      case measure => simp [intOf]
    · go_wp2
      go_roundw
      case rel => exact ⟨3, by go_num, by omega, by first | trivial | rfl⟩
      case measure => simp [intOf]
    · have HX := Lib.hid (HN.out.past (belA (Below.refl (w3.alloc (.cells #[.int .i64 0, .int .i64 0, .bool false, .string ⟨#[]⟩] 24)).heap.size (w3.alloc (.cells #[.int .i64 0, .int .i64 0, .bool false, .string ⟨#[]⟩] 24))) (.cells #[.int .i64 4, .int .i64 0, .bool false, .string ⟨#[]⟩] 24)))
      obtain ⟨⟨⟨d0, d1, d2, d3⟩, i0, i1, i2, i3⟩, _⟩ := HX.out.cells
      have hne : w.heap.size ≠ w3.heap.size + 1 := by have := HS3.out.below.size; omega
      have HXB : Hid (((w3.alloc (.cells #[.int .i64 0, .int .i64 0, .bool false, .string ⟨#[]⟩] 24)).alloc (.cells #[.int .i64 4, .int .i64 0, .bool false, .string ⟨#[]⟩] 24)).heap[w3.heap.size + 1]? = some (.cells #[.int .i64 4, .int .i64 0, .bool false, .string ⟨#[]⟩] 24 (0, 0))) := Lib.hid (by have h := heap_alloc_new (w3.alloc (.cells #[.int .i64 0, .int .i64 0, .bool false, .string ⟨#[]⟩] 24)) (.cells #[.int .i64 4, .int .i64 0, .bool false, .string ⟨#[]⟩] 24); simpa using h)
      go_wp2_with (go_at_call 19; (with_reducible refine (HCD.out _).mono ?_); rintro e wx ⟨rfl, hb⟩; have HXC := Lib.hid ((hb.block _ (Array.getElem?_eq_some_iff.1 HXB.out).1).trans HXB.out); have HX := Lib.hid (HX.out.past hb); clear d0 d1 d2 d3 i0 i1 i2 i3; obtain ⟨⟨⟨d0, d1, d2, d3⟩, i0, i1, i2, i3⟩, _⟩ := HX.out.cells; obtain ⟨⟨x0, x1, x2, x3⟩, y0, y1, y2, y3⟩ := sign_cells HXC.out; clear hb)
      exact bodyPost_ret (v := .agg #[.int .i64 4, .int .i64 z, .bool hh, .string ⟨#[]⟩]) (by simp [results, Tryd.results11, go_sem, *]) rfl ⟨rfl, below_sign ((HX.out.below.setCell (p := ⟨w3.heap.size + 1, 1, none⟩) (by have := HS3.out.below.size; show w.heap.size ≤ w3.heap.size + 1; omega) _).setCell (p := ⟨w3.heap.size + 1, 2, none⟩) (by have := HS3.out.below.size; show w.heap.size ≤ w3.heap.size + 1; omega) _) (Nat.le_refl _) _ _ _ _⟩
set_option maxRecDepth 100000 in
set_option maxHeartbeats 8000000 in
theorem refRead_633x (l : List UInt8) (hl : l.length ≤ 1000) (w : World) (his : (fromL l 1).isSome = false) (g1 : fld1 l = [54, 51, 51]) : Calls Tryd.prog 11 #[.string (bsB l)] w fun e w' => e = .returned (zeroV) ∧ Below w.heap.size w w' := by
  have HS0 := Lib.hid (EA.start w)
  have HF0 := Lib.hid (refField_any l (by omega) 0 (by decide) (w.alloc (.cells #[.int .i64 0, .int .i64 0, .bool false, .string ⟨#[]⟩] 24)))
  change Hid (Calls _ _ #[.string (bsB l), .int .i64 0] _ fun e w' => e = .returned (.tuple #[.string (bsB (fld1 l)), .bool true]) ∧ _) at HF0
  have HF1 : Hid (∀ W, Calls Tryd.prog 25 #[.string (bsB l), .int .i64 1] W fun e w' => e = .returned (.tuple #[.string (bsB (second l)), .bool (fromL l 1).isSome]) ∧ Below W.heap.size W w') := Lib.hid fun W => refField_any l (by omega) 1 (by decide) W
  have HF2 : Hid (∀ W, Calls Tryd.prog 25 #[.string (bsB l), .int .i64 2] W fun e w' => e = .returned (.tuple #[.string (bsB (third l)), .bool (fromL l 2).isSome]) ∧ Below W.heap.size W w') := Lib.hid fun W => refField_any l (by omega) 2 (by decide) W
  have e1 : (bsB (fld1 l)).toList = fld1 l := bs_toList _
  have e2 : (bsB (second l)).toList = second l := bs_toList _
  have er : (bsB (behind l)).toList = behind l := bs_toList _
  obtain ⟨b2, hb2⟩ : ∃ b, b = (fromL l 2).isSome := ⟨_, rfl⟩
  rw [← hb2] at HF2
  rw [his] at HF1
  obtain ⟨hbr, hse⟩ := no_rest2 his
  unfold zeroV sgV
  have m1 : (bsB (fld1 l)).toList = [54, 51, 51] := by rw [e1, g1]
  have a0 : ((⟨#[65, 66, 67, 68]⟩ : ByteArray).extract 0 1).toList = [65] := by rw [show (⟨#[65, 66, 67, 68]⟩ : ByteArray) = bsB [65, 66, 67, 68] from rfl, bs_extract]; exact bs_toList _
  have a1 : ((⟨#[65, 66, 67, 68]⟩ : ByteArray).extract 1 2).toList = [66] := by rw [show (⟨#[65, 66, 67, 68]⟩ : ByteArray) = bsB [65, 66, 67, 68] from rfl, bs_extract]; exact bs_toList _
  have a2 : ((⟨#[65, 66, 67, 68]⟩ : ByteArray).extract 2 3).toList = [67] := by rw [show (⟨#[65, 66, 67, 68]⟩ : ByteArray) = bsB [65, 66, 67, 68] from rfl, bs_extract]; exact bs_toList _
  have a3 : ((⟨#[65, 66, 67, 68]⟩ : ByteArray).extract 3 4).toList = [68] := by rw [show (⟨#[65, 66, 67, 68]⟩ : ByteArray) = bsB [65, 66, 67, 68] from rfl, bs_extract]; exact bs_toList _
  have u0 : ((bsB (second l)).toList == [65]) = false := by rw [e2, hse]; decide
  have u1 : ((bsB (second l)).toList == [66]) = false := by rw [e2, hse]; decide
  have u2 : ((bsB (second l)).toList == [67]) = false := by rw [e2, hse]; decide
  have u3 : ((bsB (second l)).toList == [68]) = false := by rw [e2, hse]; decide
  have u5 : ((bsB (second l)).toList == [69]) = false := by rw [e2, hse]; decide
  have u6 : ((bsB (second l)).toList == [80]) = false := by rw [e2, hse]; decide
  clear his e1 e2 er hb2 g1 hbr hse
  generalize bsB (fld1 l) = t1 at *
  generalize bsB (second l) = t2 at *
  generalize bsB (third l) = t3 at *
  generalize bsB (behind l) = tr at *
  generalize bsB l = s at *
  go_enter Tryd.func11, Tryd.ntmps11
  go_wp2_with (first | (go_at_call 25; (with_reducible refine (HF0.out).mono ?_); rintro e w1 ⟨rfl, hb⟩; have HS1 := Lib.hid (HS0.out.past hb); clear hb HF0) | (go_at_call 25; (with_reducible refine (HF1.out _).mono ?_); rintro e w2 ⟨rfl, hb⟩; have HS2 := Lib.hid (HS1.out.past hb); clear hb HF1) | (go_at_call 25; (with_reducible refine (HF2.out _).mono ?_); rintro e w3 ⟨rfl, hb⟩; have HS3 := Lib.hid (HS2.out.past hb); clear hb HF2; have HN := Lib.hid HS3.out.both; obtain ⟨⟨⟨c0, c1, c2, c3⟩, f0, f1, f2, f3⟩, n0, n1, n2, n3⟩ := HN.out.cells))
  go_loopw [11] (fun kk wr => ∃ k : Nat, kk = .int .i64 k ∧ k ≤ 4 ∧ wr = w3.alloc (.cells #[.int .i64 0, .int .i64 0, .bool false, .string ⟨#[]⟩] 24)) (fun kk _ => 4 - (intOf kk).toNat)
  case atStart => exact ⟨0, rfl, Nat.zero_le _, rfl⟩
  case round =>
    obtain ⟨k, rfl, hk, rfl⟩ := hrel
    rcases (by omega : k = 0 ∨ k = 1 ∨ k = 2 ∨ k = 3 ∨ k = 4) with rfl | rfl | rfl | rfl | rfl
    · go_wp2
      go_roundw
      case rel => exact ⟨1, by go_num, by omega, by first | trivial | rfl⟩
      case measure => simp [intOf]
    · go_wp2
      go_roundw
      case rel => exact ⟨2, by go_num, by omega, by first | trivial | rfl⟩
      case measure => simp [intOf]
    · go_wp2
      go_roundw
      case rel => exact ⟨3, by go_num, by omega, by first | trivial | rfl⟩
      case measure => simp [intOf]
    · go_wp2
      go_roundw
      case rel => exact ⟨4, by go_num, by omega, by first | trivial | rfl⟩
      case measure => simp [intOf]
    · go_wp2
      exact bodyPost_ret (v := .agg #[.int .i64 0, .int .i64 0, .bool false, .string ⟨#[]⟩]) (by simp [results, Tryd.results11, go_sem, *]) rfl ⟨rfl, below_sign HN.out.below (Nat.le_refl _) _ _ _ _⟩
set_option maxRecDepth 100000 in
set_option maxHeartbeats 8000000 in
theorem refRead_633_Ey (l : List UInt8) (hl : l.length ≤ 1000) (w : World) (his : (fromL l 1).isSome = true) (g1 : fld1 l = [54, 51, 51]) (g7 : second l = [69]) (gh : (fromL l 2).isSome = true) : Calls Tryd.prog 11 #[.string (bsB l)] w fun e w' => e = .returned (sgV 5 0 false (bsB (cut256 (unescL (third l))))) ∧ Below w.heap.size w w' := by
  have HS0 := Lib.hid (EA.start w)
  have HF0 := Lib.hid (refField_any l (by omega) 0 (by decide) (w.alloc (.cells #[.int .i64 0, .int .i64 0, .bool false, .string ⟨#[]⟩] 24)))
  change Hid (Calls _ _ #[.string (bsB l), .int .i64 0] _ fun e w' => e = .returned (.tuple #[.string (bsB (fld1 l)), .bool true]) ∧ _) at HF0
  have HF1 : Hid (∀ W, Calls Tryd.prog 25 #[.string (bsB l), .int .i64 1] W fun e w' => e = .returned (.tuple #[.string (bsB (second l)), .bool (fromL l 1).isSome]) ∧ Below W.heap.size W w') := Lib.hid fun W => refField_any l (by omega) 1 (by decide) W
  have HF2 : Hid (∀ W, Calls Tryd.prog 25 #[.string (bsB l), .int .i64 2] W fun e w' => e = .returned (.tuple #[.string (bsB (third l)), .bool (fromL l 2).isSome]) ∧ Below W.heap.size W w') := Lib.hid fun W => refField_any l (by omega) 2 (by decide) W
  have e1 : (bsB (fld1 l)).toList = fld1 l := bs_toList _
  have e2 : (bsB (second l)).toList = second l := bs_toList _
  have er : (bsB (behind l)).toList = behind l := bs_toList _
  obtain ⟨b2, hb2⟩ : ∃ b, b = (fromL l 2).isSome := ⟨_, rfl⟩
  rw [← hb2] at HF2
  rw [his] at HF1
  obtain ⟨hrx, hrl, hrs⟩ := rest_cut his
  rw [gh] at hb2
  subst hb2
  unfold sgV
  have m1 : (bsB (fld1 l)).toList = [54, 51, 51] := by rw [e1, g1]
  have m2 : (bsB (second l)).toList = [69] := by rw [e2, g7]
  have a0 : ((⟨#[65, 66, 67, 68]⟩ : ByteArray).extract 0 1).toList = [65] := by rw [show (⟨#[65, 66, 67, 68]⟩ : ByteArray) = bsB [65, 66, 67, 68] from rfl, bs_extract]; exact bs_toList _
  have a1 : ((⟨#[65, 66, 67, 68]⟩ : ByteArray).extract 1 2).toList = [66] := by rw [show (⟨#[65, 66, 67, 68]⟩ : ByteArray) = bsB [65, 66, 67, 68] from rfl, bs_extract]; exact bs_toList _
  have a2 : ((⟨#[65, 66, 67, 68]⟩ : ByteArray).extract 2 3).toList = [67] := by rw [show (⟨#[65, 66, 67, 68]⟩ : ByteArray) = bsB [65, 66, 67, 68] from rfl, bs_extract]; exact bs_toList _
  have a3 : ((⟨#[65, 66, 67, 68]⟩ : ByteArray).extract 3 4).toList = [68] := by rw [show (⟨#[65, 66, 67, 68]⟩ : ByteArray) = bsB [65, 66, 67, 68] from rfl, bs_extract]; exact bs_toList _
  have h3 := third_len l
  have hul := unescL_len _ (third l) (Nat.le_refl _)
  have HUN : Hid (∀ W, Calls Tryd.prog 17 #[.string (bsB (third l))] W fun e w' => e = .returned (.string (bsB (unescL (third l)))) ∧ Below W.heap.size W w') := Lib.hid fun W => refUnescape_any (third l) (by omega) W
  have HCU : Hid (∀ W, Calls Tryd.prog 26 #[.string (bsB (unescL (third l)))] W fun e w' => e = .returned (.string (bsB (cut256 (unescL (third l))))) ∧ w' = W) := Lib.hid fun W => refCut_any (unescL (third l)) (by omega) W
  clear his e1 e2 er  g1 g7 gh hul
  generalize bsB (cut256 (unescL (third l))) = tc at *
  generalize bsB (unescL (third l)) = tu at *
  generalize bsB (fld1 l) = t1 at *
  generalize bsB (second l) = t2 at *
  generalize bsB (third l) = t3 at *
  generalize bsB (behind l) = tr at *
  generalize bsB l = s at *
  go_enter Tryd.func11, Tryd.ntmps11
  go_wp2_with (first | (go_at_call 25; (with_reducible refine (HF0.out).mono ?_); rintro e w1 ⟨rfl, hb⟩; have HS1 := Lib.hid (HS0.out.past hb); clear hb HF0) | (go_at_call 25; (with_reducible refine (HF1.out _).mono ?_); rintro e w2 ⟨rfl, hb⟩; have HS2 := Lib.hid (HS1.out.past hb); clear hb HF1) | (go_at_call 25; (with_reducible refine (HF2.out _).mono ?_); rintro e w3 ⟨rfl, hb⟩; have HS3 := Lib.hid (HS2.out.past hb); clear hb HF2; have HN := Lib.hid HS3.out.both; obtain ⟨⟨⟨c0, c1, c2, c3⟩, f0, f1, f2, f3⟩, n0, n1, n2, n3⟩ := HN.out.cells))
  go_loopw [11] (fun kk wr => ∃ k : Nat, kk = .int .i64 k ∧ k ≤ 4 ∧ wr = w3.alloc (.cells #[.int .i64 0, .int .i64 0, .bool false, .string ⟨#[]⟩] 24)) (fun kk _ => 4 - (intOf kk).toNat)
  case atStart => exact ⟨0, rfl, Nat.zero_le _, rfl⟩
  case round =>
    obtain ⟨k, rfl, hk, rfl⟩ := hrel
    rcases (by omega : k = 0 ∨ k = 1 ∨ k = 2 ∨ k = 3 ∨ k = 4) with rfl | rfl | rfl | rfl | rfl
    · go_wp2
      go_roundw
      case rel => exact ⟨1, by go_num, by omega, by first | trivial | rfl⟩
      case measure => simp [intOf]
    · go_wp2
      go_roundw
      case rel => exact ⟨2, by go_num, by omega, by first | trivial | rfl⟩
      case measure => simp [intOf]
    · go_wp2
      go_roundw
      case rel => exact ⟨3, by go_num, by omega, by first | trivial | rfl⟩
      case measure => simp [intOf]
    · go_wp2
      go_roundw
      case rel => exact ⟨4, by go_num, by omega, by first | trivial | rfl⟩
      case measure => simp [intOf]
    · go_wp2_with (first | (go_at_call 17; (with_reducible refine (HUN.out _).mono ?_); rintro e wx ⟨rfl, hb⟩; have HN := Lib.hid (HN.out.past hb); clear c0 c1 c2 c3 f0 f1 f2 f3 n0 n1 n2 n3; obtain ⟨⟨⟨c0, c1, c2, c3⟩, f0, f1, f2, f3⟩, n0, n1, n2, n3⟩ := HN.out.cells; clear hb HUN) | (go_at_call 26; (with_reducible refine (HCU.out _).mono ?_); rintro e wx ⟨rfl, rfl⟩))
      exact bodyPost_ret (v := .agg #[.int .i64 5, .int .i64 0, .bool false, .string tc]) (by simp [results, Tryd.results11, go_sem, *]) rfl ⟨rfl, below_sign HN.out.below (Nat.le_refl _) _ _ _ _⟩
set_option maxRecDepth 100000 in
set_option maxHeartbeats 8000000 in
theorem refRead_633_En (l : List UInt8) (hl : l.length ≤ 1000) (w : World) (his : (fromL l 1).isSome = true) (g1 : fld1 l = [54, 51, 51]) (g7 : second l = [69]) (gh : (fromL l 2).isSome = false) : Calls Tryd.prog 11 #[.string (bsB l)] w fun e w' => e = .returned (zeroV) ∧ Below w.heap.size w w' := by
  have HS0 := Lib.hid (EA.start w)
  have HF0 := Lib.hid (refField_any l (by omega) 0 (by decide) (w.alloc (.cells #[.int .i64 0, .int .i64 0, .bool false, .string ⟨#[]⟩] 24)))
  change Hid (Calls _ _ #[.string (bsB l), .int .i64 0] _ fun e w' => e = .returned (.tuple #[.string (bsB (fld1 l)), .bool true]) ∧ _) at HF0
  have HF1 : Hid (∀ W, Calls Tryd.prog 25 #[.string (bsB l), .int .i64 1] W fun e w' => e = .returned (.tuple #[.string (bsB (second l)), .bool (fromL l 1).isSome]) ∧ Below W.heap.size W w') := Lib.hid fun W => refField_any l (by omega) 1 (by decide) W
  have HF2 : Hid (∀ W, Calls Tryd.prog 25 #[.string (bsB l), .int .i64 2] W fun e w' => e = .returned (.tuple #[.string (bsB (third l)), .bool (fromL l 2).isSome]) ∧ Below W.heap.size W w') := Lib.hid fun W => refField_any l (by omega) 2 (by decide) W
  have e1 : (bsB (fld1 l)).toList = fld1 l := bs_toList _
  have e2 : (bsB (second l)).toList = second l := bs_toList _
  have er : (bsB (behind l)).toList = behind l := bs_toList _
  obtain ⟨b2, hb2⟩ : ∃ b, b = (fromL l 2).isSome := ⟨_, rfl⟩
  rw [← hb2] at HF2
  rw [his] at HF1
  obtain ⟨hrx, hrl, hrs⟩ := rest_cut his
  rw [gh] at hb2
  subst hb2
  unfold zeroV sgV
  have m1 : (bsB (fld1 l)).toList = [54, 51, 51] := by rw [e1, g1]
  have m2 : (bsB (second l)).toList = [69] := by rw [e2, g7]
  have a0 : ((⟨#[65, 66, 67, 68]⟩ : ByteArray).extract 0 1).toList = [65] := by rw [show (⟨#[65, 66, 67, 68]⟩ : ByteArray) = bsB [65, 66, 67, 68] from rfl, bs_extract]; exact bs_toList _
  have a1 : ((⟨#[65, 66, 67, 68]⟩ : ByteArray).extract 1 2).toList = [66] := by rw [show (⟨#[65, 66, 67, 68]⟩ : ByteArray) = bsB [65, 66, 67, 68] from rfl, bs_extract]; exact bs_toList _
  have a2 : ((⟨#[65, 66, 67, 68]⟩ : ByteArray).extract 2 3).toList = [67] := by rw [show (⟨#[65, 66, 67, 68]⟩ : ByteArray) = bsB [65, 66, 67, 68] from rfl, bs_extract]; exact bs_toList _
  have a3 : ((⟨#[65, 66, 67, 68]⟩ : ByteArray).extract 3 4).toList = [68] := by rw [show (⟨#[65, 66, 67, 68]⟩ : ByteArray) = bsB [65, 66, 67, 68] from rfl, bs_extract]; exact bs_toList _
  clear his e1 e2 er  g1 g7 gh
  generalize bsB (fld1 l) = t1 at *
  generalize bsB (second l) = t2 at *
  generalize bsB (third l) = t3 at *
  generalize bsB (behind l) = tr at *
  generalize bsB l = s at *
  go_enter Tryd.func11, Tryd.ntmps11
  go_wp2_with (first | (go_at_call 25; (with_reducible refine (HF0.out).mono ?_); rintro e w1 ⟨rfl, hb⟩; have HS1 := Lib.hid (HS0.out.past hb); clear hb HF0) | (go_at_call 25; (with_reducible refine (HF1.out _).mono ?_); rintro e w2 ⟨rfl, hb⟩; have HS2 := Lib.hid (HS1.out.past hb); clear hb HF1) | (go_at_call 25; (with_reducible refine (HF2.out _).mono ?_); rintro e w3 ⟨rfl, hb⟩; have HS3 := Lib.hid (HS2.out.past hb); clear hb HF2; have HN := Lib.hid HS3.out.both; obtain ⟨⟨⟨c0, c1, c2, c3⟩, f0, f1, f2, f3⟩, n0, n1, n2, n3⟩ := HN.out.cells))
  go_loopw [11] (fun kk wr => ∃ k : Nat, kk = .int .i64 k ∧ k ≤ 4 ∧ wr = w3.alloc (.cells #[.int .i64 0, .int .i64 0, .bool false, .string ⟨#[]⟩] 24)) (fun kk _ => 4 - (intOf kk).toNat)
  case atStart => exact ⟨0, rfl, Nat.zero_le _, rfl⟩
  case round =>
    obtain ⟨k, rfl, hk, rfl⟩ := hrel
    rcases (by omega : k = 0 ∨ k = 1 ∨ k = 2 ∨ k = 3 ∨ k = 4) with rfl | rfl | rfl | rfl | rfl
    · go_wp2
      go_roundw
      case rel => exact ⟨1, by go_num, by omega, by first | trivial | rfl⟩
      case measure => simp [intOf]
    · go_wp2
      go_roundw
      case rel => exact ⟨2, by go_num, by omega, by first | trivial | rfl⟩
      case measure => simp [intOf]
    · go_wp2
      go_roundw
      case rel => exact ⟨3, by go_num, by omega, by first | trivial | rfl⟩
      case measure => simp [intOf]
    · go_wp2
      go_roundw
      case rel => exact ⟨4, by go_num, by omega, by first | trivial | rfl⟩
      case measure => simp [intOf]
    · go_wp2
      exact bodyPost_ret (v := .agg #[.int .i64 0, .int .i64 0, .bool false, .string ⟨#[]⟩]) (by simp [results, Tryd.results11, go_sem, *]) rfl ⟨rfl, below_sign HN.out.below (Nat.le_refl _) _ _ _ _⟩
set_option maxRecDepth 100000 in
set_option maxHeartbeats 8000000 in
theorem refRead_633_Py (l : List UInt8) (hl : l.length ≤ 1000) (w : World) (his : (fromL l 1).isSome = true) (g1 : fld1 l = [54, 51, 51]) (g7 : second l = [80]) (gp : Lib.hasPrefix (third l) cwdT = true) : Calls Tryd.prog 11 #[.string (bsB l)] w fun e w' => e = .returned (sgV 6 0 false (bsB (cut256 (unescL ((third l).drop 4))))) ∧ Below w.heap.size w w' := by
  have HS0 := Lib.hid (EA.start w)
  have HF0 := Lib.hid (refField_any l (by omega) 0 (by decide) (w.alloc (.cells #[.int .i64 0, .int .i64 0, .bool false, .string ⟨#[]⟩] 24)))
  change Hid (Calls _ _ #[.string (bsB l), .int .i64 0] _ fun e w' => e = .returned (.tuple #[.string (bsB (fld1 l)), .bool true]) ∧ _) at HF0
  have HF1 : Hid (∀ W, Calls Tryd.prog 25 #[.string (bsB l), .int .i64 1] W fun e w' => e = .returned (.tuple #[.string (bsB (second l)), .bool (fromL l 1).isSome]) ∧ Below W.heap.size W w') := Lib.hid fun W => refField_any l (by omega) 1 (by decide) W
  have HF2 : Hid (∀ W, Calls Tryd.prog 25 #[.string (bsB l), .int .i64 2] W fun e w' => e = .returned (.tuple #[.string (bsB (third l)), .bool (fromL l 2).isSome]) ∧ Below W.heap.size W w') := Lib.hid fun W => refField_any l (by omega) 2 (by decide) W
  have e1 : (bsB (fld1 l)).toList = fld1 l := bs_toList _
  have e2 : (bsB (second l)).toList = second l := bs_toList _
  have er : (bsB (behind l)).toList = behind l := bs_toList _
  obtain ⟨b2, hb2⟩ : ∃ b, b = (fromL l 2).isSome := ⟨_, rfl⟩
  rw [← hb2] at HF2
  rw [his] at HF1
  obtain ⟨hrx, hrl, hrs⟩ := rest_cut his
  unfold sgV
  have m1 : (bsB (fld1 l)).toList = [54, 51, 51] := by rw [e1, g1]
  have m2 : (bsB (second l)).toList = [80] := by rw [e2, g7]
  have a0 : ((⟨#[65, 66, 67, 68]⟩ : ByteArray).extract 0 1).toList = [65] := by rw [show (⟨#[65, 66, 67, 68]⟩ : ByteArray) = bsB [65, 66, 67, 68] from rfl, bs_extract]; exact bs_toList _
  have a1 : ((⟨#[65, 66, 67, 68]⟩ : ByteArray).extract 1 2).toList = [66] := by rw [show (⟨#[65, 66, 67, 68]⟩ : ByteArray) = bsB [65, 66, 67, 68] from rfl, bs_extract]; exact bs_toList _
  have a2 : ((⟨#[65, 66, 67, 68]⟩ : ByteArray).extract 2 3).toList = [67] := by rw [show (⟨#[65, 66, 67, 68]⟩ : ByteArray) = bsB [65, 66, 67, 68] from rfl, bs_extract]; exact bs_toList _
  have a3 : ((⟨#[65, 66, 67, 68]⟩ : ByteArray).extract 3 4).toList = [68] := by rw [show (⟨#[65, 66, 67, 68]⟩ : ByteArray) = bsB [65, 66, 67, 68] from rfl, bs_extract]; exact bs_toList _
  have h3 := third_len l
  have hdl : ((third l).drop 4).length ≤ l.length := by rw [List.length_drop]; omega
  have hul := unescL_len _ ((third l).drop 4) (Nat.le_refl _)
  have HST : Hid (∀ W, Calls Tryd.prog 27 #[.string (bsB (third l)), .string ⟨#[67, 119, 100, 61]⟩] W fun e w' => e = .returned (.tuple #[.string (bsB ((third l).drop 4)), .bool true]) ∧ w' = W) := Lib.hid fun W => by
    have h := refStarts_any (third l) cwdT W
    rw [if_pos gp] at h
    exact h
  have HUN : Hid (∀ W, Calls Tryd.prog 17 #[.string (bsB ((third l).drop 4))] W fun e w' => e = .returned (.string (bsB (unescL ((third l).drop 4)))) ∧ Below W.heap.size W w') := Lib.hid fun W => refUnescape_any ((third l).drop 4) (by omega) W
  have HCU : Hid (∀ W, Calls Tryd.prog 26 #[.string (bsB (unescL ((third l).drop 4)))] W fun e w' => e = .returned (.string (bsB (cut256 (unescL ((third l).drop 4))))) ∧ w' = W) := Lib.hid fun W => refCut_any (unescL ((third l).drop 4)) (by omega) W
  clear his e1 e2 er hb2 g1 g7 gp hul hdl
  generalize bsB (cut256 (unescL ((third l).drop 4))) = tc at *
  generalize bsB (unescL ((third l).drop 4)) = tu at *
  generalize bsB ((third l).drop 4) = td at *
  generalize bsB (fld1 l) = t1 at *
  generalize bsB (second l) = t2 at *
  generalize bsB (third l) = t3 at *
  generalize bsB (behind l) = tr at *
  generalize bsB l = s at *
  go_enter Tryd.func11, Tryd.ntmps11
  go_wp2_with (first | (go_at_call 25; (with_reducible refine (HF0.out).mono ?_); rintro e w1 ⟨rfl, hb⟩; have HS1 := Lib.hid (HS0.out.past hb); clear hb HF0) | (go_at_call 25; (with_reducible refine (HF1.out _).mono ?_); rintro e w2 ⟨rfl, hb⟩; have HS2 := Lib.hid (HS1.out.past hb); clear hb HF1) | (go_at_call 25; (with_reducible refine (HF2.out _).mono ?_); rintro e w3 ⟨rfl, hb⟩; have HS3 := Lib.hid (HS2.out.past hb); clear hb HF2; have HN := Lib.hid HS3.out.both; obtain ⟨⟨⟨c0, c1, c2, c3⟩, f0, f1, f2, f3⟩, n0, n1, n2, n3⟩ := HN.out.cells))
  go_loopw [11] (fun kk wr => ∃ k : Nat, kk = .int .i64 k ∧ k ≤ 4 ∧ wr = w3.alloc (.cells #[.int .i64 0, .int .i64 0, .bool false, .string ⟨#[]⟩] 24)) (fun kk _ => 4 - (intOf kk).toNat)
  case atStart => exact ⟨0, rfl, Nat.zero_le _, rfl⟩
  case round =>
    obtain ⟨k, rfl, hk, rfl⟩ := hrel
    rcases (by omega : k = 0 ∨ k = 1 ∨ k = 2 ∨ k = 3 ∨ k = 4) with rfl | rfl | rfl | rfl | rfl
    · go_wp2
      go_roundw
      case rel => exact ⟨1, by go_num, by omega, by first | trivial | rfl⟩
      case measure => simp [intOf]
    · go_wp2
      go_roundw
      case rel => exact ⟨2, by go_num, by omega, by first | trivial | rfl⟩
      case measure => simp [intOf]
    · go_wp2
      go_roundw
      case rel => exact ⟨3, by go_num, by omega, by first | trivial | rfl⟩
      case measure => simp [intOf]
    · go_wp2
      go_roundw
      case rel => exact ⟨4, by go_num, by omega, by first | trivial | rfl⟩
      case measure => simp [intOf]
    · go_wp2_with (first | (go_at_call 27; (with_reducible refine (HST.out _).mono ?_); rintro e wx ⟨rfl, rfl⟩) | (go_at_call 17; (with_reducible refine (HUN.out _).mono ?_); rintro e wx ⟨rfl, hb⟩; have HN := Lib.hid (HN.out.past hb); clear c0 c1 c2 c3 f0 f1 f2 f3 n0 n1 n2 n3; obtain ⟨⟨⟨c0, c1, c2, c3⟩, f0, f1, f2, f3⟩, n0, n1, n2, n3⟩ := HN.out.cells; clear hb HUN) | (go_at_call 26; (with_reducible refine (HCU.out _).mono ?_); rintro e wx ⟨rfl, rfl⟩))
      exact bodyPost_ret (v := .agg #[.int .i64 6, .int .i64 0, .bool false, .string tc]) (by simp [results, Tryd.results11, go_sem, *]) rfl ⟨rfl, below_sign HN.out.below (Nat.le_refl _) _ _ _ _⟩
set_option maxRecDepth 100000 in
set_option maxHeartbeats 8000000 in
theorem refRead_633_Pn (l : List UInt8) (hl : l.length ≤ 1000) (w : World) (his : (fromL l 1).isSome = true) (g1 : fld1 l = [54, 51, 51]) (g7 : second l = [80]) (gp : ¬ Lib.hasPrefix (third l) cwdT = true) : Calls Tryd.prog 11 #[.string (bsB l)] w fun e w' => e = .returned (zeroV) ∧ Below w.heap.size w w' := by
  have HS0 := Lib.hid (EA.start w)
  have HF0 := Lib.hid (refField_any l (by omega) 0 (by decide) (w.alloc (.cells #[.int .i64 0, .int .i64 0, .bool false, .string ⟨#[]⟩] 24)))
  change Hid (Calls _ _ #[.string (bsB l), .int .i64 0] _ fun e w' => e = .returned (.tuple #[.string (bsB (fld1 l)), .bool true]) ∧ _) at HF0
  have HF1 : Hid (∀ W, Calls Tryd.prog 25 #[.string (bsB l), .int .i64 1] W fun e w' => e = .returned (.tuple #[.string (bsB (second l)), .bool (fromL l 1).isSome]) ∧ Below W.heap.size W w') := Lib.hid fun W => refField_any l (by omega) 1 (by decide) W
  have HF2 : Hid (∀ W, Calls Tryd.prog 25 #[.string (bsB l), .int .i64 2] W fun e w' => e = .returned (.tuple #[.string (bsB (third l)), .bool (fromL l 2).isSome]) ∧ Below W.heap.size W w') := Lib.hid fun W => refField_any l (by omega) 2 (by decide) W
  have e1 : (bsB (fld1 l)).toList = fld1 l := bs_toList _
  have e2 : (bsB (second l)).toList = second l := bs_toList _
  have er : (bsB (behind l)).toList = behind l := bs_toList _
  obtain ⟨b2, hb2⟩ : ∃ b, b = (fromL l 2).isSome := ⟨_, rfl⟩
  rw [← hb2] at HF2
  rw [his] at HF1
  obtain ⟨hrx, hrl, hrs⟩ := rest_cut his
  unfold zeroV sgV
  have m1 : (bsB (fld1 l)).toList = [54, 51, 51] := by rw [e1, g1]
  have m2 : (bsB (second l)).toList = [80] := by rw [e2, g7]
  have a0 : ((⟨#[65, 66, 67, 68]⟩ : ByteArray).extract 0 1).toList = [65] := by rw [show (⟨#[65, 66, 67, 68]⟩ : ByteArray) = bsB [65, 66, 67, 68] from rfl, bs_extract]; exact bs_toList _
  have a1 : ((⟨#[65, 66, 67, 68]⟩ : ByteArray).extract 1 2).toList = [66] := by rw [show (⟨#[65, 66, 67, 68]⟩ : ByteArray) = bsB [65, 66, 67, 68] from rfl, bs_extract]; exact bs_toList _
  have a2 : ((⟨#[65, 66, 67, 68]⟩ : ByteArray).extract 2 3).toList = [67] := by rw [show (⟨#[65, 66, 67, 68]⟩ : ByteArray) = bsB [65, 66, 67, 68] from rfl, bs_extract]; exact bs_toList _
  have a3 : ((⟨#[65, 66, 67, 68]⟩ : ByteArray).extract 3 4).toList = [68] := by rw [show (⟨#[65, 66, 67, 68]⟩ : ByteArray) = bsB [65, 66, 67, 68] from rfl, bs_extract]; exact bs_toList _
  have HST : Hid (∀ W, Calls Tryd.prog 27 #[.string (bsB (third l)), .string ⟨#[67, 119, 100, 61]⟩] W fun e w' => e = .returned (.tuple #[.string ⟨#[]⟩, .bool false]) ∧ w' = W) := Lib.hid fun W => by
    have h := refStarts_any (third l) cwdT W
    rw [if_neg gp] at h
    exact h
  clear his e1 e2 er hb2 g1 g7 gp
  generalize bsB (fld1 l) = t1 at *
  generalize bsB (second l) = t2 at *
  generalize bsB (third l) = t3 at *
  generalize bsB (behind l) = tr at *
  generalize bsB l = s at *
  go_enter Tryd.func11, Tryd.ntmps11
  go_wp2_with (first | (go_at_call 25; (with_reducible refine (HF0.out).mono ?_); rintro e w1 ⟨rfl, hb⟩; have HS1 := Lib.hid (HS0.out.past hb); clear hb HF0) | (go_at_call 25; (with_reducible refine (HF1.out _).mono ?_); rintro e w2 ⟨rfl, hb⟩; have HS2 := Lib.hid (HS1.out.past hb); clear hb HF1) | (go_at_call 25; (with_reducible refine (HF2.out _).mono ?_); rintro e w3 ⟨rfl, hb⟩; have HS3 := Lib.hid (HS2.out.past hb); clear hb HF2; have HN := Lib.hid HS3.out.both; obtain ⟨⟨⟨c0, c1, c2, c3⟩, f0, f1, f2, f3⟩, n0, n1, n2, n3⟩ := HN.out.cells))
  go_loopw [11] (fun kk wr => ∃ k : Nat, kk = .int .i64 k ∧ k ≤ 4 ∧ wr = w3.alloc (.cells #[.int .i64 0, .int .i64 0, .bool false, .string ⟨#[]⟩] 24)) (fun kk _ => 4 - (intOf kk).toNat)
  case atStart => exact ⟨0, rfl, Nat.zero_le _, rfl⟩
  case round =>
    obtain ⟨k, rfl, hk, rfl⟩ := hrel
    rcases (by omega : k = 0 ∨ k = 1 ∨ k = 2 ∨ k = 3 ∨ k = 4) with rfl | rfl | rfl | rfl | rfl
    · go_wp2
      go_roundw
      case rel => exact ⟨1, by go_num, by omega, by first | trivial | rfl⟩
      case measure => simp [intOf]
    · go_wp2
      go_roundw
      case rel => exact ⟨2, by go_num, by omega, by first | trivial | rfl⟩
      case measure => simp [intOf]
    · go_wp2
      go_roundw
      case rel => exact ⟨3, by go_num, by omega, by first | trivial | rfl⟩
      case measure => simp [intOf]
    · go_wp2
      go_roundw
      case rel => exact ⟨4, by go_num, by omega, by first | trivial | rfl⟩
      case measure => simp [intOf]
    · go_wp2_with (first | (go_at_call 27; (with_reducible refine (HST.out _).mono ?_); rintro e wx ⟨rfl, rfl⟩))
      exact bodyPost_ret (v := .agg #[.int .i64 0, .int .i64 0, .bool false, .string ⟨#[]⟩]) (by simp [results, Tryd.results11, go_sem, *]) rfl ⟨rfl, below_sign HN.out.below (Nat.le_refl _) _ _ _ _⟩
set_option maxRecDepth 100000 in
set_option maxHeartbeats 8000000 in
theorem refRead_633_n (l : List UInt8) (hl : l.length ≤ 1000) (w : World) (his : (fromL l 1).isSome = true) (g1 : fld1 l = [54, 51, 51]) (v0 : second l ≠ [65]) (v1 : second l ≠ [66]) (v2 : second l ≠ [67]) (v3 : second l ≠ [68]) (v5 : second l ≠ [69]) (v6 : second l ≠ [80]) : Calls Tryd.prog 11 #[.string (bsB l)] w fun e w' => e = .returned (zeroV) ∧ Below w.heap.size w w' := by
  have HS0 := Lib.hid (EA.start w)
  have HF0 := Lib.hid (refField_any l (by omega) 0 (by decide) (w.alloc (.cells #[.int .i64 0, .int .i64 0, .bool false, .string ⟨#[]⟩] 24)))
  change Hid (Calls _ _ #[.string (bsB l), .int .i64 0] _ fun e w' => e = .returned (.tuple #[.string (bsB (fld1 l)), .bool true]) ∧ _) at HF0
  have HF1 : Hid (∀ W, Calls Tryd.prog 25 #[.string (bsB l), .int .i64 1] W fun e w' => e = .returned (.tuple #[.string (bsB (second l)), .bool (fromL l 1).isSome]) ∧ Below W.heap.size W w') := Lib.hid fun W => refField_any l (by omega) 1 (by decide) W
  have HF2 : Hid (∀ W, Calls Tryd.prog 25 #[.string (bsB l), .int .i64 2] W fun e w' => e = .returned (.tuple #[.string (bsB (third l)), .bool (fromL l 2).isSome]) ∧ Below W.heap.size W w') := Lib.hid fun W => refField_any l (by omega) 2 (by decide) W
  have e1 : (bsB (fld1 l)).toList = fld1 l := bs_toList _
  have e2 : (bsB (second l)).toList = second l := bs_toList _
  have er : (bsB (behind l)).toList = behind l := bs_toList _
  obtain ⟨b2, hb2⟩ : ∃ b, b = (fromL l 2).isSome := ⟨_, rfl⟩
  rw [← hb2] at HF2
  rw [his] at HF1
  obtain ⟨hrx, hrl, hrs⟩ := rest_cut his
  unfold zeroV sgV
  have m1 : (bsB (fld1 l)).toList = [54, 51, 51] := by rw [e1, g1]
  have a0 : ((⟨#[65, 66, 67, 68]⟩ : ByteArray).extract 0 1).toList = [65] := by rw [show (⟨#[65, 66, 67, 68]⟩ : ByteArray) = bsB [65, 66, 67, 68] from rfl, bs_extract]; exact bs_toList _
  have a1 : ((⟨#[65, 66, 67, 68]⟩ : ByteArray).extract 1 2).toList = [66] := by rw [show (⟨#[65, 66, 67, 68]⟩ : ByteArray) = bsB [65, 66, 67, 68] from rfl, bs_extract]; exact bs_toList _
  have a2 : ((⟨#[65, 66, 67, 68]⟩ : ByteArray).extract 2 3).toList = [67] := by rw [show (⟨#[65, 66, 67, 68]⟩ : ByteArray) = bsB [65, 66, 67, 68] from rfl, bs_extract]; exact bs_toList _
  have a3 : ((⟨#[65, 66, 67, 68]⟩ : ByteArray).extract 3 4).toList = [68] := by rw [show (⟨#[65, 66, 67, 68]⟩ : ByteArray) = bsB [65, 66, 67, 68] from rfl, bs_extract]; exact bs_toList _
  have u0 : ((bsB (second l)).toList == [65]) = false := by rw [e2]; exact beq_false_of_ne v0
  have u1 : ((bsB (second l)).toList == [66]) = false := by rw [e2]; exact beq_false_of_ne v1
  have u2 : ((bsB (second l)).toList == [67]) = false := by rw [e2]; exact beq_false_of_ne v2
  have u3 : ((bsB (second l)).toList == [68]) = false := by rw [e2]; exact beq_false_of_ne v3
  have u5 : ((bsB (second l)).toList == [69]) = false := by rw [e2]; exact beq_false_of_ne v5
  have u6 : ((bsB (second l)).toList == [80]) = false := by rw [e2]; exact beq_false_of_ne v6
  clear his e1 e2 er hb2 g1 v5 v6 v0 v1 v2 v3
  generalize bsB (fld1 l) = t1 at *
  generalize bsB (second l) = t2 at *
  generalize bsB (third l) = t3 at *
  generalize bsB (behind l) = tr at *
  generalize bsB l = s at *
  go_enter Tryd.func11, Tryd.ntmps11
  go_wp2_with (first | (go_at_call 25; (with_reducible refine (HF0.out).mono ?_); rintro e w1 ⟨rfl, hb⟩; have HS1 := Lib.hid (HS0.out.past hb); clear hb HF0) | (go_at_call 25; (with_reducible refine (HF1.out _).mono ?_); rintro e w2 ⟨rfl, hb⟩; have HS2 := Lib.hid (HS1.out.past hb); clear hb HF1) | (go_at_call 25; (with_reducible refine (HF2.out _).mono ?_); rintro e w3 ⟨rfl, hb⟩; have HS3 := Lib.hid (HS2.out.past hb); clear hb HF2; have HN := Lib.hid HS3.out.both; obtain ⟨⟨⟨c0, c1, c2, c3⟩, f0, f1, f2, f3⟩, n0, n1, n2, n3⟩ := HN.out.cells))
  go_loopw [11] (fun kk wr => ∃ k : Nat, kk = .int .i64 k ∧ k ≤ 4 ∧ wr = w3.alloc (.cells #[.int .i64 0, .int .i64 0, .bool false, .string ⟨#[]⟩] 24)) (fun kk _ => 4 - (intOf kk).toNat)
  case atStart => exact ⟨0, rfl, Nat.zero_le _, rfl⟩
  case round =>
    obtain ⟨k, rfl, hk, rfl⟩ := hrel
    rcases (by omega : k = 0 ∨ k = 1 ∨ k = 2 ∨ k = 3 ∨ k = 4) with rfl | rfl | rfl | rfl | rfl
    · go_wp2
      go_roundw
      case rel => exact ⟨1, by go_num, by omega, by first | trivial | rfl⟩
      case measure => simp [intOf]
    · go_wp2
      go_roundw
      case rel => exact ⟨2, by go_num, by omega, by first | trivial | rfl⟩
      case measure => simp [intOf]
    · go_wp2
      go_roundw
      case rel => exact ⟨3, by go_num, by omega, by first | trivial | rfl⟩
      case measure => simp [intOf]
    · go_wp2
      go_roundw
      case rel => exact ⟨4, by go_num, by omega, by first | trivial | rfl⟩
      case measure => simp [intOf]
    · go_wp2
      exact bodyPost_ret (v := .agg #[.int .i64 0, .int .i64 0, .bool false, .string ⟨#[]⟩]) (by simp [results, Tryd.results11, go_sem, *]) rfl ⟨rfl, below_sign HN.out.below (Nat.le_refl _) _ _ _ _⟩
end Go.Proofs.YtfibbdkfofnojaaDoor
