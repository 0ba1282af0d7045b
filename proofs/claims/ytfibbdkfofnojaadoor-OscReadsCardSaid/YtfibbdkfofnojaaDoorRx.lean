/- The walks of the document's starts and Read. Written by mkrx.py. -/
import Derived.Test.YtfibbdkfofnojaaDoorRk
import Derived.Test.YtfibbdkfofnojaaDoorRm
import Derived.Test.YtfibbdkfofnojaaDoorRu
import Derived.Test.YtfibbdkfofnojaaDoorRv
namespace Go.Proofs.YtfibbdkfofnojaaDoor
open Go.RowKit

theorem pre_take (l p : List UInt8) : Lib.hasPrefix l p = decide (l.take p.length = p) := by
  show List.isPrefixOf p l = _
  by_cases h : l.take p.length = p
  · rw [decide_eq_true h]
    exact List.isPrefixOf_iff_prefix.2 (List.prefix_iff_eq_take.2 h.symm)
  · rw [decide_eq_false h]
    cases hp : List.isPrefixOf p l with
    | false => rfl
    | true => exact absurd (List.prefix_iff_eq_take.1 (List.isPrefixOf_iff_prefix.1 hp)).symm h
theorem refStarts_any (l p : List UInt8) (w : World) : Calls Tryd.prog 27 #[.string (bsB l), .string (bsB p)] w fun e w' => e = .returned (if Lib.hasPrefix l p = true then .tuple #[.string (bsB (l.drop p.length)), .bool true] else .tuple #[.string ⟨#[]⟩, .bool false]) ∧ w' = w := by
  have hpt := pre_take l p
  have hs1 : ((bsB l).size : Int) = l.length := by rw [bsB_size]
  have hs2 : ((bsB p).size : Int) = p.length := by rw [bsB_size]
  have hp2 : (bsB p).toList = p := bs_toList _
  by_cases h1 : l.length < p.length
  · rw [if_neg (by rw [hpt]; simp; intro h; have := congrArg List.length h; rw [List.length_take] at this; omega)]
    clear hpt hp2
    generalize bsB l = s at *
    generalize bsB p = t at *
    generalize l.length = m at *
    generalize p.length = n at *
    go_enter Tryd.func27, Tryd.ntmps27
    go_wp2
    exact bodyPost_ret (v := .tuple #[.string ⟨#[]⟩, .bool false]) (by simp [results, Tryd.results27, go_sem]) rfl ⟨rfl, rfl⟩
  have hx : (bsB l).extract 0 p.length = bsB (l.take p.length) := by rw [bs_extract]; rfl
  have hx2 : (bsB l).extract p.length (bsB l).size = bsB (l.drop p.length) := cutN l p.length
  have ht : (bsB (l.take p.length)).toList = l.take p.length := bs_toList _
  have hle : (p.length : Int) ≤ l.length := by omega
  by_cases h2 : l.take p.length = p
  · rw [if_pos (by rw [hpt, decide_eq_true h2])]
    have e1 : (bsB (l.take p.length)).toList = p := by rw [ht, h2]
    clear hpt ht h2 h1
    generalize bsB (l.take p.length) = u at *
    generalize bsB (l.drop p.length) = v at *
    generalize bsB l = s at *
    generalize bsB p = t at *
    generalize l.length = m at *
    generalize p.length = n at *
    go_enter Tryd.func27, Tryd.ntmps27
    go_wp2
    exact bodyPost_ret (v := .tuple #[.string v, .bool true]) (by simp [results, Tryd.results27, go_sem]) rfl ⟨rfl, rfl⟩
  · rw [if_neg (by rw [hpt, decide_eq_false h2]; decide)]
    have e1 : ((bsB (l.take p.length)).toList == (bsB p).toList) = false := by rw [ht, hp2]; exact beq_false_of_ne h2
    clear hpt ht h2 h1 hp2
    generalize bsB (l.take p.length) = u at *
    generalize bsB (l.drop p.length) = v at *
    generalize bsB l = s at *
    generalize bsB p = t at *
    generalize l.length = m at *
    generalize p.length = n at *
    go_enter Tryd.func27, Tryd.ntmps27
    go_wp2
    exact bodyPost_ret (v := .tuple #[.string ⟨#[]⟩, .bool false]) (by simp [results, Tryd.results27, go_sem]) rfl ⟨rfl, rfl⟩
/-- The result's box and the box of an empty sign. -/
structure EB (w W : World) (g : Nat) : Prop where
  below : Below w.heap.size w W
  rs : W.heap[w.heap.size]? = some (.cells #[.int .i64 0, .int .i64 0, .bool false, .string ⟨#[]⟩] 24 (0, 0))
  no : W.heap[g]? = some (.cells #[.int .i64 0, .int .i64 0, .bool false, .string ⟨#[]⟩] 24 (0, 0))
theorem EB.past {w W W' : World} {g : Nat} (h : EB w W g) (hb : Below W.heap.size W W') : EB w W' g :=
  ⟨bel0 h.below hb, (hb.block _ (Array.getElem?_eq_some_iff.1 h.rs).1).trans h.rs, (hb.block _ (Array.getElem?_eq_some_iff.1 h.no).1).trans h.no⟩
/-- The result's box alone. -/
structure EA (w W : World) : Prop where
  below : Below w.heap.size w W
  rs : W.heap[w.heap.size]? = some (.cells #[.int .i64 0, .int .i64 0, .bool false, .string ⟨#[]⟩] 24 (0, 0))
theorem EA.start (w : World) : EA w (w.alloc (.cells #[.int .i64 0, .int .i64 0, .bool false, .string ⟨#[]⟩] 24)) := ⟨belA (Below.refl _ _) _, heap_alloc_new w _⟩
theorem EA.past {w W W' : World} (h : EA w W) (hb : Below W.heap.size W W') : EA w W' :=
  ⟨bel0 h.below hb, (hb.block _ (Array.getElem?_eq_some_iff.1 h.rs).1).trans h.rs⟩
theorem EA.both {w W : World} (h : EA w W) : EB w (W.alloc (.cells #[.int .i64 0, .int .i64 0, .bool false, .string ⟨#[]⟩] 24)) W.heap.size :=
  ⟨belA h.below _, by rw [show (W.alloc (.cells #[.int .i64 0, .int .i64 0, .bool false, .string ⟨#[]⟩] 24)).heap[w.heap.size]? = W.heap[w.heap.size]? from (belA (Below.refl W.heap.size W) _).block _ (Array.getElem?_eq_some_iff.1 h.rs).1]; exact h.rs, heap_alloc_new W _⟩
theorem EB.cells {w W : World} {g : Nat} (h : EB w W g) : ((W.cell? ⟨w.heap.size, 0, none⟩ = some (.int .i64 0) ∧ W.cell? ⟨w.heap.size, 1, none⟩ = some (.int .i64 0) ∧ W.cell? ⟨w.heap.size, 2, none⟩ = some (.bool false) ∧ W.cell? ⟨w.heap.size, 3, none⟩ = some (.string ⟨#[]⟩)) ∧ (W.frozen? ⟨w.heap.size, 0, none⟩ = false ∧ W.frozen? ⟨w.heap.size, 1, none⟩ = false ∧ W.frozen? ⟨w.heap.size, 2, none⟩ = false ∧ W.frozen? ⟨w.heap.size, 3, none⟩ = false)) ∧ (W.cell? ⟨g, 0, none⟩ = some (.int .i64 0) ∧ W.cell? ⟨g, 1, none⟩ = some (.int .i64 0) ∧ W.cell? ⟨g, 2, none⟩ = some (.bool false) ∧ W.cell? ⟨g, 3, none⟩ = some (.string ⟨#[]⟩)) :=
  ⟨sign_cells h.rs, (sign_cells h.no).1⟩
/-- What stands behind the first field, as the document cuts it. -/
theorem rest_cut {l : List UInt8} (h : (fromL l 1).isSome = true) : (bsB l).extract ((bsB (fld1 l)).size + 1) (bsB l).size = bsB (behind l) ∧ ((bsB (fld1 l)).size : Int) + 1 ≤ (bsB l).size ∧ ((bsB l).size : Int) = l.length := by
  have hc : fromL l 1 = cut1 l := rfl
  rw [hc] at h
  have hb : behind l = (cut1 l).getD [] := by unfold behind; rw [hc]
  rw [hb]
  unfold cut1 fld1 at *
  cases hi : l.idxOf? 59 with
  | none => rw [hi] at h; cases h
  | some j =>
    have hj : j < l.length := by
      have := List.idxOf?_eq_some_iff.1 hi
      exact this.1
    refine ⟨?_, ?_, by rw [bsB_size]⟩
    · show (bsB l).extract ((bsB (l.take j)).size + 1) (bsB l).size = bsB (l.drop (j + 1))
      rw [bsB_size, List.length_take, Nat.min_eq_left (by omega)]
      exact cutN l (j + 1)
    · show ((bsB (l.take j)).size : Int) + 1 ≤ (bsB l).size
      rw [bsB_size, bsB_size, List.length_take]; omega
set_option maxRecDepth 100000 in
set_option maxHeartbeats 8000000 in
theorem refRead_other (l : List UInt8) (hl : l.length ≤ 1000) (w : World) (his : (fromL l 1).isSome = true) (g1 : fld1 l ≠ [49, 51, 51]) (g2 : fld1 l ≠ [54, 51, 51]) (g3 : fld1 l ≠ [55]) (g4 : fld1 l ≠ [49, 51, 51, 55]) (g5 : fld1 l ≠ [48]) (g6 : fld1 l ≠ [50]) : Calls Tryd.prog 11 #[.string (bsB l)] w fun e w' => e = .returned zeroV ∧ Below w.heap.size w w' := by
  have HS0 := Lib.hid (EA.start w)
  have HF0 := Lib.hid (refField_any l (by omega) 0 (by decide) (w.alloc (.cells #[.int .i64 0, .int .i64 0, .bool false, .string ⟨#[]⟩] 24)))
  change Hid (Calls _ _ #[.string (bsB l), .int .i64 0] _ fun e w' => e = .returned (.tuple #[.string (bsB (fld1 l)), .bool true]) ∧ _) at HF0
  have HF1 : Hid (∀ W, Calls Tryd.prog 25 #[.string (bsB l), .int .i64 1] W fun e w' => e = .returned (.tuple #[.string (bsB (second l)), .bool (fromL l 1).isSome]) ∧ Below W.heap.size W w') := Lib.hid fun W => refField_any l (by omega) 1 (by decide) W
  have HF2 : Hid (∀ W, Calls Tryd.prog 25 #[.string (bsB l), .int .i64 2] W fun e w' => e = .returned (.tuple #[.string (bsB (third l)), .bool (fromL l 2).isSome]) ∧ Below W.heap.size W w') := Lib.hid fun W => refField_any l (by omega) 2 (by decide) W
  have e1 : (bsB (fld1 l)).toList = fld1 l := bs_toList _
  have e2 : (bsB (second l)).toList = second l := bs_toList _
  have er : (bsB (behind l)).toList = behind l := bs_toList _
  obtain ⟨b2, hb2⟩ : ∃ b, b = (fromL l 2).isSome := ⟨_, rfl⟩
  rw [← hb2] at HF2
  rw [his] at HF1
  obtain ⟨hrx, hrl, hrs⟩ := rest_cut his
  unfold zeroV sgV
  have q1 : ((bsB (fld1 l)).toList == [49, 51, 51]) = false := by rw [e1]; exact beq_false_of_ne g1
  have q2 : ((bsB (fld1 l)).toList == [54, 51, 51]) = false := by rw [e1]; exact beq_false_of_ne g2
  have q3 : ((bsB (fld1 l)).toList == [55]) = false := by rw [e1]; exact beq_false_of_ne g3
  have q4 : ((bsB (fld1 l)).toList == [49, 51, 51, 55]) = false := by rw [e1]; exact beq_false_of_ne g4
  have q5 : ((bsB (fld1 l)).toList == [48]) = false := by rw [e1]; exact beq_false_of_ne g5
  have q6 : ((bsB (fld1 l)).toList == [50]) = false := by rw [e1]; exact beq_false_of_ne g6
  clear his e1 e2 er hb2 g1 g2 g3 g4 g5 g6
  generalize bsB (fld1 l) = t1 at *
  generalize bsB (second l) = t2 at *
  generalize bsB (third l) = t3 at *
  generalize bsB (behind l) = tr at *
  generalize bsB l = s at *
  go_enter Tryd.func11, Tryd.ntmps11
  go_wp2_with (first | (go_at_call 25; (with_reducible refine (HF0.out).mono ?_); rintro e w1 ⟨rfl, hb⟩; have HS1 := Lib.hid (HS0.out.past hb); clear hb HF0) | (go_at_call 25; (with_reducible refine (HF1.out _).mono ?_); rintro e w2 ⟨rfl, hb⟩; have HS2 := Lib.hid (HS1.out.past hb); clear hb HF1) | (go_at_call 25; (with_reducible refine (HF2.out _).mono ?_); rintro e w3 ⟨rfl, hb⟩; have HS3 := Lib.hid (HS2.out.past hb); clear hb HF2; have HN := Lib.hid HS3.out.both; obtain ⟨⟨⟨c0, c1, c2, c3⟩, f0, f1, f2, f3⟩, n0, n1, n2, n3⟩ := HN.out.cells))
  exact bodyPost_ret (v := .agg #[.int .i64 0, .int .i64 0, .bool false, .string ⟨#[]⟩]) (by simp [results, Tryd.results11, go_sem, *]) rfl ⟨rfl, below_sign HN.out.below (Nat.le_refl _) _ _ _ _⟩
set_option maxRecDepth 100000 in
set_option maxHeartbeats 8000000 in
theorem refRead_133_0 (l : List UInt8) (hl : l.length ≤ 1000) (w : World) (his : (fromL l 1).isSome = true) (g1 : fld1 l = [49, 51, 51])  (g7 : second l = [65]) : Calls Tryd.prog 11 #[.string (bsB l)] w fun e w' => e = .returned (sgV 1 0 false ⟨#[]⟩) ∧ Below w.heap.size w w' := by
  have HS0 := Lib.hid (EA.start w)
  have HF0 := Lib.hid (refField_any l (by omega) 0 (by decide) (w.alloc (.cells #[.int .i64 0, .int .i64 0, .bool false, .string ⟨#[]⟩] 24)))
  change Hid (Calls _ _ #[.string (bsB l), .int .i64 0] _ fun e w' => e = .returned (.tuple #[.string (bsB (fld1 l)), .bool true]) ∧ _) at HF0
  have HF1 : Hid (∀ W, Calls Tryd.prog 25 #[.string (bsB l), .int .i64 1] W fun e w' => e = .returned (.tuple #[.string (bsB (second l)), .bool (fromL l 1).isSome]) ∧ Below W.heap.size W w') := Lib.hid fun W => refField_any l (by omega) 1 (by decide) W
  have HF2 : Hid (∀ W, Calls Tryd.prog 25 #[.string (bsB l), .int .i64 2] W fun e w' => e = .returned (.tuple #[.string (bsB (third l)), .bool (fromL l 2).isSome]) ∧ Below W.heap.size W w') := Lib.hid fun W => refField_any l (by omega) 2 (by decide) W
  have e1 : (bsB (fld1 l)).toList = fld1 l := bs_toList _
  have e2 : (bsB (second l)).toList = second l := bs_toList _
  have er : (bsB (behind l)).toList = behind l := bs_toList _
  obtain ⟨b2, hb2⟩ : ∃ b, b = (fromL l 2).isSome := ⟨_, rfl⟩
  rw [← hb2] at HF2
  rw [his] at HF1
  obtain ⟨hrx, hrl, hrs⟩ := rest_cut his
  unfold sgV
  have m1 : (bsB (fld1 l)).toList = [49, 51, 51] := by rw [e1, g1]
  have a0 : ((⟨#[65, 66, 67, 68]⟩ : ByteArray).extract 0 1).toList = [65] := by rw [show (⟨#[65, 66, 67, 68]⟩ : ByteArray) = bsB [65, 66, 67, 68] from rfl, bs_extract]; exact bs_toList _
  have a1 : ((⟨#[65, 66, 67, 68]⟩ : ByteArray).extract 1 2).toList = [66] := by rw [show (⟨#[65, 66, 67, 68]⟩ : ByteArray) = bsB [65, 66, 67, 68] from rfl, bs_extract]; exact bs_toList _
  have a2 : ((⟨#[65, 66, 67, 68]⟩ : ByteArray).extract 2 3).toList = [67] := by rw [show (⟨#[65, 66, 67, 68]⟩ : ByteArray) = bsB [65, 66, 67, 68] from rfl, bs_extract]; exact bs_toList _
  have a3 : ((⟨#[65, 66, 67, 68]⟩ : ByteArray).extract 3 4).toList = [68] := by rw [show (⟨#[65, 66, 67, 68]⟩ : ByteArray) = bsB [65, 66, 67, 68] from rfl, bs_extract]; exact bs_toList _
  have m2 : (bsB (second l)).toList = [65] := by rw [e2, g7]
  clear his e1 e2 er hb2 g1 g7 
  generalize bsB (fld1 l) = t1 at *
  generalize bsB (second l) = t2 at *
  generalize bsB (third l) = t3 at *
  generalize bsB (behind l) = tr at *
  generalize bsB l = s at *
  go_enter Tryd.func11, Tryd.ntmps11
  go_wp2_with (first | (go_at_call 25; (with_reducible refine (HF0.out).mono ?_); rintro e w1 ⟨rfl, hb⟩; have HS1 := Lib.hid (HS0.out.past hb); clear hb HF0) | (go_at_call 25; (with_reducible refine (HF1.out _).mono ?_); rintro e w2 ⟨rfl, hb⟩; have HS2 := Lib.hid (HS1.out.past hb); clear hb HF1) | (go_at_call 25; (with_reducible refine (HF2.out _).mono ?_); rintro e w3 ⟨rfl, hb⟩; have HS3 := Lib.hid (HS2.out.past hb); clear hb HF2; have HN := Lib.hid HS3.out.both; obtain ⟨⟨⟨c0, c1, c2, c3⟩, f0, f1, f2, f3⟩, n0, n1, n2, n3⟩ := HN.out.cells))
  go_loopw [11] (fun kk wr => ∃ k : Nat, kk = .int .i64 k ∧ k ≤ 0 ∧ wr = w3.alloc (.cells #[.int .i64 0, .int .i64 0, .bool false, .string ⟨#[]⟩] 24)) (fun kk _ => 4 - (intOf kk).toNat)
  case atStart => exact ⟨0, rfl, Nat.zero_le _, rfl⟩
  case round =>
    obtain ⟨k, rfl, hk, rfl⟩ := hrel
    obtain rfl : k = 0 := by omega
    have HX := Lib.hid (HN.out.past (belA (Below.refl (w3.alloc (.cells #[.int .i64 0, .int .i64 0, .bool false, .string ⟨#[]⟩] 24)).heap.size (w3.alloc (.cells #[.int .i64 0, .int .i64 0, .bool false, .string ⟨#[]⟩] 24))) (.cells #[.int .i64 1, .int .i64 0, .bool false, .string ⟨#[]⟩] 24)))
    obtain ⟨⟨⟨d0, d1, d2, d3⟩, i0, i1, i2, i3⟩, _⟩ := HX.out.cells
    go_wp2
    exact bodyPost_ret (v := .agg #[.int .i64 1, .int .i64 0, .bool false, .string ⟨#[]⟩]) (by simp [results, Tryd.results11, go_sem, *]) rfl ⟨rfl, below_sign HX.out.below (Nat.le_refl _) _ _ _ _⟩
set_option maxRecDepth 100000 in
set_option maxHeartbeats 8000000 in
theorem refRead_133_1 (l : List UInt8) (hl : l.length ≤ 1000) (w : World) (his : (fromL l 1).isSome = true) (g1 : fld1 l = [49, 51, 51]) (v0 : second l ≠ [65]) (g7 : second l = [66]) : Calls Tryd.prog 11 #[.string (bsB l)] w fun e w' => e = .returned (sgV 2 0 false ⟨#[]⟩) ∧ Below w.heap.size w w' := by
  have HS0 := Lib.hid (EA.start w)
  have HF0 := Lib.hid (refField_any l (by omega) 0 (by decide) (w.alloc (.cells #[.int .i64 0, .int .i64 0, .bool false, .string ⟨#[]⟩] 24)))
  change Hid (Calls _ _ #[.string (bsB l), .int .i64 0] _ fun e w' => e = .returned (.tuple #[.string (bsB (fld1 l)), .bool true]) ∧ _) at HF0
  have HF1 : Hid (∀ W, Calls Tryd.prog 25 #[.string (bsB l), .int .i64 1] W fun e w' => e = .returned (.tuple #[.string (bsB (second l)), .bool (fromL l 1).isSome]) ∧ Below W.heap.size W w') := Lib.hid fun W => refField_any l (by omega) 1 (by decide) W
  have HF2 : Hid (∀ W, Calls Tryd.prog 25 #[.string (bsB l), .int .i64 2] W fun e w' => e = .returned (.tuple #[.string (bsB (third l)), .bool (fromL l 2).isSome]) ∧ Below W.heap.size W w') := Lib.hid fun W => refField_any l (by omega) 2 (by decide) W
  have e1 : (bsB (fld1 l)).toList = fld1 l := bs_toList _
  have e2 : (bsB (second l)).toList = second l := bs_toList _
  have er : (bsB (behind l)).toList = behind l := bs_toList _
  obtain ⟨b2, hb2⟩ : ∃ b, b = (fromL l 2).isSome := ⟨_, rfl⟩
  rw [← hb2] at HF2
  rw [his] at HF1
  obtain ⟨hrx, hrl, hrs⟩ := rest_cut his
  unfold sgV
  have m1 : (bsB (fld1 l)).toList = [49, 51, 51] := by rw [e1, g1]
  have a0 : ((⟨#[65, 66, 67, 68]⟩ : ByteArray).extract 0 1).toList = [65] := by rw [show (⟨#[65, 66, 67, 68]⟩ : ByteArray) = bsB [65, 66, 67, 68] from rfl, bs_extract]; exact bs_toList _
  have a1 : ((⟨#[65, 66, 67, 68]⟩ : ByteArray).extract 1 2).toList = [66] := by rw [show (⟨#[65, 66, 67, 68]⟩ : ByteArray) = bsB [65, 66, 67, 68] from rfl, bs_extract]; exact bs_toList _
  have a2 : ((⟨#[65, 66, 67, 68]⟩ : ByteArray).extract 2 3).toList = [67] := by rw [show (⟨#[65, 66, 67, 68]⟩ : ByteArray) = bsB [65, 66, 67, 68] from rfl, bs_extract]; exact bs_toList _
  have a3 : ((⟨#[65, 66, 67, 68]⟩ : ByteArray).extract 3 4).toList = [68] := by rw [show (⟨#[65, 66, 67, 68]⟩ : ByteArray) = bsB [65, 66, 67, 68] from rfl, bs_extract]; exact bs_toList _
  have u0 : ((bsB (second l)).toList == [65]) = false := by rw [e2]; exact beq_false_of_ne v0
  have m2 : (bsB (second l)).toList = [66] := by rw [e2, g7]
  clear his e1 e2 er hb2 g1 g7 v0
  generalize bsB (fld1 l) = t1 at *
  generalize bsB (second l) = t2 at *
  generalize bsB (third l) = t3 at *
  generalize bsB (behind l) = tr at *
  generalize bsB l = s at *
  go_enter Tryd.func11, Tryd.ntmps11
  go_wp2_with (first | (go_at_call 25; (with_reducible refine (HF0.out).mono ?_); rintro e w1 ⟨rfl, hb⟩; have HS1 := Lib.hid (HS0.out.past hb); clear hb HF0) | (go_at_call 25; (with_reducible refine (HF1.out _).mono ?_); rintro e w2 ⟨rfl, hb⟩; have HS2 := Lib.hid (HS1.out.past hb); clear hb HF1) | (go_at_call 25; (with_reducible refine (HF2.out _).mono ?_); rintro e w3 ⟨rfl, hb⟩; have HS3 := Lib.hid (HS2.out.past hb); clear hb HF2; have HN := Lib.hid HS3.out.both; obtain ⟨⟨⟨c0, c1, c2, c3⟩, f0, f1, f2, f3⟩, n0, n1, n2, n3⟩ := HN.out.cells))
  go_loopw [11] (fun kk wr => ∃ k : Nat, kk = .int .i64 k ∧ k ≤ 1 ∧ wr = w3.alloc (.cells #[.int .i64 0, .int .i64 0, .bool false, .string ⟨#[]⟩] 24)) (fun kk _ => 4 - (intOf kk).toNat)
  case atStart => exact ⟨0, rfl, Nat.zero_le _, rfl⟩
  case round =>
    obtain ⟨k, rfl, hk, rfl⟩ := hrel
    rcases (by omega : k = 0 ∨ k = 1) with rfl | rfl
    · go_wp2
      go_roundw
      case rel => exact ⟨1, by go_num, by omega, by first | trivial | rfl⟩
      case measure => simp [intOf]
    · have HX := Lib.hid (HN.out.past (belA (Below.refl (w3.alloc (.cells #[.int .i64 0, .int .i64 0, .bool false, .string ⟨#[]⟩] 24)).heap.size (w3.alloc (.cells #[.int .i64 0, .int .i64 0, .bool false, .string ⟨#[]⟩] 24))) (.cells #[.int .i64 2, .int .i64 0, .bool false, .string ⟨#[]⟩] 24)))
      obtain ⟨⟨⟨d0, d1, d2, d3⟩, i0, i1, i2, i3⟩, _⟩ := HX.out.cells
      go_wp2
      exact bodyPost_ret (v := .agg #[.int .i64 2, .int .i64 0, .bool false, .string ⟨#[]⟩]) (by simp [results, Tryd.results11, go_sem, *]) rfl ⟨rfl, below_sign HX.out.below (Nat.le_refl _) _ _ _ _⟩
set_option maxRecDepth 100000 in
set_option maxHeartbeats 8000000 in
theorem refRead_133_2 (l : List UInt8) (hl : l.length ≤ 1000) (w : World) (his : (fromL l 1).isSome = true) (g1 : fld1 l = [49, 51, 51]) (v0 : second l ≠ [65]) (v1 : second l ≠ [66]) (g7 : second l = [67]) : Calls Tryd.prog 11 #[.string (bsB l)] w fun e w' => e = .returned (sgV 3 0 false ⟨#[]⟩) ∧ Below w.heap.size w w' := by
  have HS0 := Lib.hid (EA.start w)
  have HF0 := Lib.hid (refField_any l (by omega) 0 (by decide) (w.alloc (.cells #[.int .i64 0, .int .i64 0, .bool false, .string ⟨#[]⟩] 24)))
  change Hid (Calls _ _ #[.string (bsB l), .int .i64 0] _ fun e w' => e = .returned (.tuple #[.string (bsB (fld1 l)), .bool true]) ∧ _) at HF0
  have HF1 : Hid (∀ W, Calls Tryd.prog 25 #[.string (bsB l), .int .i64 1] W fun e w' => e = .returned (.tuple #[.string (bsB (second l)), .bool (fromL l 1).isSome]) ∧ Below W.heap.size W w') := Lib.hid fun W => refField_any l (by omega) 1 (by decide) W
  have HF2 : Hid (∀ W, Calls Tryd.prog 25 #[.string (bsB l), .int .i64 2] W fun e w' => e = .returned (.tuple #[.string (bsB (third l)), .bool (fromL l 2).isSome]) ∧ Below W.heap.size W w') := Lib.hid fun W => refField_any l (by omega) 2 (by decide) W
  have e1 : (bsB (fld1 l)).toList = fld1 l := bs_toList _
  have e2 : (bsB (second l)).toList = second l := bs_toList _
  have er : (bsB (behind l)).toList = behind l := bs_toList _
  obtain ⟨b2, hb2⟩ : ∃ b, b = (fromL l 2).isSome := ⟨_, rfl⟩
  rw [← hb2] at HF2
  rw [his] at HF1
  obtain ⟨hrx, hrl, hrs⟩ := rest_cut his
  unfold sgV
  have m1 : (bsB (fld1 l)).toList = [49, 51, 51] := by rw [e1, g1]
  have a0 : ((⟨#[65, 66, 67, 68]⟩ : ByteArray).extract 0 1).toList = [65] := by rw [show (⟨#[65, 66, 67, 68]⟩ : ByteArray) = bsB [65, 66, 67, 68] from rfl, bs_extract]; exact bs_toList _
  have a1 : ((⟨#[65, 66, 67, 68]⟩ : ByteArray).extract 1 2).toList = [66] := by rw [show (⟨#[65, 66, 67, 68]⟩ : ByteArray) = bsB [65, 66, 67, 68] from rfl, bs_extract]; exact bs_toList _
  have a2 : ((⟨#[65, 66, 67, 68]⟩ : ByteArray).extract 2 3).toList = [67] := by rw [show (⟨#[65, 66, 67, 68]⟩ : ByteArray) = bsB [65, 66, 67, 68] from rfl, bs_extract]; exact bs_toList _
  have a3 : ((⟨#[65, 66, 67, 68]⟩ : ByteArray).extract 3 4).toList = [68] := by rw [show (⟨#[65, 66, 67, 68]⟩ : ByteArray) = bsB [65, 66, 67, 68] from rfl, bs_extract]; exact bs_toList _
  have u0 : ((bsB (second l)).toList == [65]) = false := by rw [e2]; exact beq_false_of_ne v0
  have u1 : ((bsB (second l)).toList == [66]) = false := by rw [e2]; exact beq_false_of_ne v1
  have m2 : (bsB (second l)).toList = [67] := by rw [e2, g7]
  clear his e1 e2 er hb2 g1 g7 v0 v1
  generalize bsB (fld1 l) = t1 at *
  generalize bsB (second l) = t2 at *
  generalize bsB (third l) = t3 at *
  generalize bsB (behind l) = tr at *
  generalize bsB l = s at *
  go_enter Tryd.func11, Tryd.ntmps11
  go_wp2_with (first | (go_at_call 25; (with_reducible refine (HF0.out).mono ?_); rintro e w1 ⟨rfl, hb⟩; have HS1 := Lib.hid (HS0.out.past hb); clear hb HF0) | (go_at_call 25; (with_reducible refine (HF1.out _).mono ?_); rintro e w2 ⟨rfl, hb⟩; have HS2 := Lib.hid (HS1.out.past hb); clear hb HF1) | (go_at_call 25; (with_reducible refine (HF2.out _).mono ?_); rintro e w3 ⟨rfl, hb⟩; have HS3 := Lib.hid (HS2.out.past hb); clear hb HF2; have HN := Lib.hid HS3.out.both; obtain ⟨⟨⟨c0, c1, c2, c3⟩, f0, f1, f2, f3⟩, n0, n1, n2, n3⟩ := HN.out.cells))
  go_loopw [11] (fun kk wr => ∃ k : Nat, kk = .int .i64 k ∧ k ≤ 2 ∧ wr = w3.alloc (.cells #[.int .i64 0, .int .i64 0, .bool false, .string ⟨#[]⟩] 24)) (fun kk _ => 4 - (intOf kk).toNat)
  case atStart => exact ⟨0, rfl, Nat.zero_le _, rfl⟩
  case round =>
    obtain ⟨k, rfl, hk, rfl⟩ := hrel
    rcases (by omega : k = 0 ∨ k = 1 ∨ k = 2) with rfl | rfl | rfl
    · go_wp2
      go_roundw
      case rel => exact ⟨1, by go_num, by omega, by first | trivial | rfl⟩
      case measure => simp [intOf]
    · go_wp2
      go_roundw
      case rel => exact ⟨2, by go_num, by omega, by first | trivial | rfl⟩
      case measure => simp [intOf]
    · have HX := Lib.hid (HN.out.past (belA (Below.refl (w3.alloc (.cells #[.int .i64 0, .int .i64 0, .bool false, .string ⟨#[]⟩] 24)).heap.size (w3.alloc (.cells #[.int .i64 0, .int .i64 0, .bool false, .string ⟨#[]⟩] 24))) (.cells #[.int .i64 3, .int .i64 0, .bool false, .string ⟨#[]⟩] 24)))
      obtain ⟨⟨⟨d0, d1, d2, d3⟩, i0, i1, i2, i3⟩, _⟩ := HX.out.cells
      go_wp2
      exact bodyPost_ret (v := .agg #[.int .i64 3, .int .i64 0, .bool false, .string ⟨#[]⟩]) (by simp [results, Tryd.results11, go_sem, *]) rfl ⟨rfl, below_sign HX.out.below (Nat.le_refl _) _ _ _ _⟩
set_option maxRecDepth 100000 in
set_option maxHeartbeats 8000000 in
theorem refRead_633_0 (l : List UInt8) (hl : l.length ≤ 1000) (w : World) (his : (fromL l 1).isSome = true) (g1 : fld1 l = [54, 51, 51])  (g7 : second l = [65]) : Calls Tryd.prog 11 #[.string (bsB l)] w fun e w' => e = .returned (sgV 1 0 false ⟨#[]⟩) ∧ Below w.heap.size w w' := by
  have HS0 := Lib.hid (EA.start w)
  have HF0 := Lib.hid (refField_any l (by omega) 0 (by decide) (w.alloc (.cells #[.int .i64 0, .int .i64 0, .bool false, .string ⟨#[]⟩] 24)))
  change Hid (Calls _ _ #[.string (bsB l), .int .i64 0] _ fun e w' => e = .returned (.tuple #[.string (bsB (fld1 l)), .bool true]) ∧ _) at HF0
  have HF1 : Hid (∀ W, Calls Tryd.prog 25 #[.string (bsB l), .int .i64 1] W fun e w' => e = .returned (.tuple #[.string (bsB (second l)), .bool (fromL l 1).isSome]) ∧ Below W.heap.size W w') := Lib.hid fun W => refField_any l (by omega) 1 (by decide) W
  have HF2 : Hid (∀ W, Calls Tryd.prog 25 #[.string (bsB l), .int .i64 2] W fun e w' => e = .returned (.tuple #[.string (bsB (third l)), .bool (fromL l 2).isSome]) ∧ Below W.heap.size W w') := Lib.hid fun W => refField_any l (by omega) 2 (by decide) W
  have e1 : (bsB (fld1 l)).toList = fld1 l := bs_toList _
  have e2 : (bsB (second l)).toList = second l := bs_toList _
  have er : (bsB (behind l)).toList = behind l := bs_toList _
  obtain ⟨b2, hb2⟩ : ∃ b, b = (fromL l 2).isSome := ⟨_, rfl⟩
  rw [← hb2] at HF2
  rw [his] at HF1
  obtain ⟨hrx, hrl, hrs⟩ := rest_cut his
  unfold sgV
  have m1 : (bsB (fld1 l)).toList = [54, 51, 51] := by rw [e1, g1]
  have a0 : ((⟨#[65, 66, 67, 68]⟩ : ByteArray).extract 0 1).toList = [65] := by rw [show (⟨#[65, 66, 67, 68]⟩ : ByteArray) = bsB [65, 66, 67, 68] from rfl, bs_extract]; exact bs_toList _
  have a1 : ((⟨#[65, 66, 67, 68]⟩ : ByteArray).extract 1 2).toList = [66] := by rw [show (⟨#[65, 66, 67, 68]⟩ : ByteArray) = bsB [65, 66, 67, 68] from rfl, bs_extract]; exact bs_toList _
  have a2 : ((⟨#[65, 66, 67, 68]⟩ : ByteArray).extract 2 3).toList = [67] := by rw [show (⟨#[65, 66, 67, 68]⟩ : ByteArray) = bsB [65, 66, 67, 68] from rfl, bs_extract]; exact bs_toList _
  have a3 : ((⟨#[65, 66, 67, 68]⟩ : ByteArray).extract 3 4).toList = [68] := by rw [show (⟨#[65, 66, 67, 68]⟩ : ByteArray) = bsB [65, 66, 67, 68] from rfl, bs_extract]; exact bs_toList _
  have m2 : (bsB (second l)).toList = [65] := by rw [e2, g7]
  clear his e1 e2 er hb2 g1 g7 
  generalize bsB (fld1 l) = t1 at *
  generalize bsB (second l) = t2 at *
  generalize bsB (third l) = t3 at *
  generalize bsB (behind l) = tr at *
  generalize bsB l = s at *
  go_enter Tryd.func11, Tryd.ntmps11
  go_wp2_with (first | (go_at_call 25; (with_reducible refine (HF0.out).mono ?_); rintro e w1 ⟨rfl, hb⟩; have HS1 := Lib.hid (HS0.out.past hb); clear hb HF0) | (go_at_call 25; (with_reducible refine (HF1.out _).mono ?_); rintro e w2 ⟨rfl, hb⟩; have HS2 := Lib.hid (HS1.out.past hb); clear hb HF1) | (go_at_call 25; (with_reducible refine (HF2.out _).mono ?_); rintro e w3 ⟨rfl, hb⟩; have HS3 := Lib.hid (HS2.out.past hb); clear hb HF2; have HN := Lib.hid HS3.out.both; obtain ⟨⟨⟨c0, c1, c2, c3⟩, f0, f1, f2, f3⟩, n0, n1, n2, n3⟩ := HN.out.cells))
  go_loopw [11] (fun kk wr => ∃ k : Nat, kk = .int .i64 k ∧ k ≤ 0 ∧ wr = w3.alloc (.cells #[.int .i64 0, .int .i64 0, .bool false, .string ⟨#[]⟩] 24)) (fun kk _ => 4 - (intOf kk).toNat)
  case atStart => exact ⟨0, rfl, Nat.zero_le _, rfl⟩
  case round =>
    obtain ⟨k, rfl, hk, rfl⟩ := hrel
    obtain rfl : k = 0 := by omega
    have HX := Lib.hid (HN.out.past (belA (Below.refl (w3.alloc (.cells #[.int .i64 0, .int .i64 0, .bool false, .string ⟨#[]⟩] 24)).heap.size (w3.alloc (.cells #[.int .i64 0, .int .i64 0, .bool false, .string ⟨#[]⟩] 24))) (.cells #[.int .i64 1, .int .i64 0, .bool false, .string ⟨#[]⟩] 24)))
    obtain ⟨⟨⟨d0, d1, d2, d3⟩, i0, i1, i2, i3⟩, _⟩ := HX.out.cells
    go_wp2
    exact bodyPost_ret (v := .agg #[.int .i64 1, .int .i64 0, .bool false, .string ⟨#[]⟩]) (by simp [results, Tryd.results11, go_sem, *]) rfl ⟨rfl, below_sign HX.out.below (Nat.le_refl _) _ _ _ _⟩
set_option maxRecDepth 100000 in
set_option maxHeartbeats 8000000 in
theorem refRead_633_1 (l : List UInt8) (hl : l.length ≤ 1000) (w : World) (his : (fromL l 1).isSome = true) (g1 : fld1 l = [54, 51, 51]) (v0 : second l ≠ [65]) (g7 : second l = [66]) : Calls Tryd.prog 11 #[.string (bsB l)] w fun e w' => e = .returned (sgV 2 0 false ⟨#[]⟩) ∧ Below w.heap.size w w' := by
  have HS0 := Lib.hid (EA.start w)
  have HF0 := Lib.hid (refField_any l (by omega) 0 (by decide) (w.alloc (.cells #[.int .i64 0, .int .i64 0, .bool false, .string ⟨#[]⟩] 24)))
  change Hid (Calls _ _ #[.string (bsB l), .int .i64 0] _ fun e w' => e = .returned (.tuple #[.string (bsB (fld1 l)), .bool true]) ∧ _) at HF0
  have HF1 : Hid (∀ W, Calls Tryd.prog 25 #[.string (bsB l), .int .i64 1] W fun e w' => e = .returned (.tuple #[.string (bsB (second l)), .bool (fromL l 1).isSome]) ∧ Below W.heap.size W w') := Lib.hid fun W => refField_any l (by omega) 1 (by decide) W
  have HF2 : Hid (∀ W, Calls Tryd.prog 25 #[.string (bsB l), .int .i64 2] W fun e w' => e = .returned (.tuple #[.string (bsB (third l)), .bool (fromL l 2).isSome]) ∧ Below W.heap.size W w') := Lib.hid fun W => refField_any l (by omega) 2 (by decide) W
  have e1 : (bsB (fld1 l)).toList = fld1 l := bs_toList _
  have e2 : (bsB (second l)).toList = second l := bs_toList _
  have er : (bsB (behind l)).toList = behind l := bs_toList _
  obtain ⟨b2, hb2⟩ : ∃ b, b = (fromL l 2).isSome := ⟨_, rfl⟩
  rw [← hb2] at HF2
  rw [his] at HF1
  obtain ⟨hrx, hrl, hrs⟩ := rest_cut his
  unfold sgV
  have m1 : (bsB (fld1 l)).toList = [54, 51, 51] := by rw [e1, g1]
  have a0 : ((⟨#[65, 66, 67, 68]⟩ : ByteArray).extract 0 1).toList = [65] := by rw [show (⟨#[65, 66, 67, 68]⟩ : ByteArray) = bsB [65, 66, 67, 68] from rfl, bs_extract]; exact bs_toList _
  have a1 : ((⟨#[65, 66, 67, 68]⟩ : ByteArray).extract 1 2).toList = [66] := by rw [show (⟨#[65, 66, 67, 68]⟩ : ByteArray) = bsB [65, 66, 67, 68] from rfl, bs_extract]; exact bs_toList _
  have a2 : ((⟨#[65, 66, 67, 68]⟩ : ByteArray).extract 2 3).toList = [67] := by rw [show (⟨#[65, 66, 67, 68]⟩ : ByteArray) = bsB [65, 66, 67, 68] from rfl, bs_extract]; exact bs_toList _
  have a3 : ((⟨#[65, 66, 67, 68]⟩ : ByteArray).extract 3 4).toList = [68] := by rw [show (⟨#[65, 66, 67, 68]⟩ : ByteArray) = bsB [65, 66, 67, 68] from rfl, bs_extract]; exact bs_toList _
  have u0 : ((bsB (second l)).toList == [65]) = false := by rw [e2]; exact beq_false_of_ne v0
  have m2 : (bsB (second l)).toList = [66] := by rw [e2, g7]
  clear his e1 e2 er hb2 g1 g7 v0
  generalize bsB (fld1 l) = t1 at *
  generalize bsB (second l) = t2 at *
  generalize bsB (third l) = t3 at *
  generalize bsB (behind l) = tr at *
  generalize bsB l = s at *
  go_enter Tryd.func11, Tryd.ntmps11
  go_wp2_with (first | (go_at_call 25; (with_reducible refine (HF0.out).mono ?_); rintro e w1 ⟨rfl, hb⟩; have HS1 := Lib.hid (HS0.out.past hb); clear hb HF0) | (go_at_call 25; (with_reducible refine (HF1.out _).mono ?_); rintro e w2 ⟨rfl, hb⟩; have HS2 := Lib.hid (HS1.out.past hb); clear hb HF1) | (go_at_call 25; (with_reducible refine (HF2.out _).mono ?_); rintro e w3 ⟨rfl, hb⟩; have HS3 := Lib.hid (HS2.out.past hb); clear hb HF2; have HN := Lib.hid HS3.out.both; obtain ⟨⟨⟨c0, c1, c2, c3⟩, f0, f1, f2, f3⟩, n0, n1, n2, n3⟩ := HN.out.cells))
  go_loopw [11] (fun kk wr => ∃ k : Nat, kk = .int .i64 k ∧ k ≤ 1 ∧ wr = w3.alloc (.cells #[.int .i64 0, .int .i64 0, .bool false, .string ⟨#[]⟩] 24)) (fun kk _ => 4 - (intOf kk).toNat)
  case atStart => exact ⟨0, rfl, Nat.zero_le _, rfl⟩
  case round =>
    obtain ⟨k, rfl, hk, rfl⟩ := hrel
    rcases (by omega : k = 0 ∨ k = 1) with rfl | rfl
    · go_wp2
      go_roundw
      case rel => exact ⟨1, by go_num, by omega, by first | trivial | rfl⟩
      case measure => simp [intOf]
    · have HX := Lib.hid (HN.out.past (belA (Below.refl (w3.alloc (.cells #[.int .i64 0, .int .i64 0, .bool false, .string ⟨#[]⟩] 24)).heap.size (w3.alloc (.cells #[.int .i64 0, .int .i64 0, .bool false, .string ⟨#[]⟩] 24))) (.cells #[.int .i64 2, .int .i64 0, .bool false, .string ⟨#[]⟩] 24)))
      obtain ⟨⟨⟨d0, d1, d2, d3⟩, i0, i1, i2, i3⟩, _⟩ := HX.out.cells
      go_wp2
      exact bodyPost_ret (v := .agg #[.int .i64 2, .int .i64 0, .bool false, .string ⟨#[]⟩]) (by simp [results, Tryd.results11, go_sem, *]) rfl ⟨rfl, below_sign HX.out.below (Nat.le_refl _) _ _ _ _⟩
set_option maxRecDepth 100000 in
set_option maxHeartbeats 8000000 in
theorem refRead_633_2 (l : List UInt8) (hl : l.length ≤ 1000) (w : World) (his : (fromL l 1).isSome = true) (g1 : fld1 l = [54, 51, 51]) (v0 : second l ≠ [65]) (v1 : second l ≠ [66]) (g7 : second l = [67]) : Calls Tryd.prog 11 #[.string (bsB l)] w fun e w' => e = .returned (sgV 3 0 false ⟨#[]⟩) ∧ Below w.heap.size w w' := by
  have HS0 := Lib.hid (EA.start w)
  have HF0 := Lib.hid (refField_any l (by omega) 0 (by decide) (w.alloc (.cells #[.int .i64 0, .int .i64 0, .bool false, .string ⟨#[]⟩] 24)))
  change Hid (Calls _ _ #[.string (bsB l), .int .i64 0] _ fun e w' => e = .returned (.tuple #[.string (bsB (fld1 l)), .bool true]) ∧ _) at HF0
  have HF1 : Hid (∀ W, Calls Tryd.prog 25 #[.string (bsB l), .int .i64 1] W fun e w' => e = .returned (.tuple #[.string (bsB (second l)), .bool (fromL l 1).isSome]) ∧ Below W.heap.size W w') := Lib.hid fun W => refField_any l (by omega) 1 (by decide) W
  have HF2 : Hid (∀ W, Calls Tryd.prog 25 #[.string (bsB l), .int .i64 2] W fun e w' => e = .returned (.tuple #[.string (bsB (third l)), .bool (fromL l 2).isSome]) ∧ Below W.heap.size W w') := Lib.hid fun W => refField_any l (by omega) 2 (by decide) W
  have e1 : (bsB (fld1 l)).toList = fld1 l := bs_toList _
  have e2 : (bsB (second l)).toList = second l := bs_toList _
  have er : (bsB (behind l)).toList = behind l := bs_toList _
  obtain ⟨b2, hb2⟩ : ∃ b, b = (fromL l 2).isSome := ⟨_, rfl⟩
  rw [← hb2] at HF2
  rw [his] at HF1
  obtain ⟨hrx, hrl, hrs⟩ := rest_cut his
  unfold sgV
  have m1 : (bsB (fld1 l)).toList = [54, 51, 51] := by rw [e1, g1]
  have a0 : ((⟨#[65, 66, 67, 68]⟩ : ByteArray).extract 0 1).toList = [65] := by rw [show (⟨#[65, 66, 67, 68]⟩ : ByteArray) = bsB [65, 66, 67, 68] from rfl, bs_extract]; exact bs_toList _
  have a1 : ((⟨#[65, 66, 67, 68]⟩ : ByteArray).extract 1 2).toList = [66] := by rw [show (⟨#[65, 66, 67, 68]⟩ : ByteArray) = bsB [65, 66, 67, 68] from rfl, bs_extract]; exact bs_toList _
  have a2 : ((⟨#[65, 66, 67, 68]⟩ : ByteArray).extract 2 3).toList = [67] := by rw [show (⟨#[65, 66, 67, 68]⟩ : ByteArray) = bsB [65, 66, 67, 68] from rfl, bs_extract]; exact bs_toList _
  have a3 : ((⟨#[65, 66, 67, 68]⟩ : ByteArray).extract 3 4).toList = [68] := by rw [show (⟨#[65, 66, 67, 68]⟩ : ByteArray) = bsB [65, 66, 67, 68] from rfl, bs_extract]; exact bs_toList _
  have u0 : ((bsB (second l)).toList == [65]) = false := by rw [e2]; exact beq_false_of_ne v0
  have u1 : ((bsB (second l)).toList == [66]) = false := by rw [e2]; exact beq_false_of_ne v1
  have m2 : (bsB (second l)).toList = [67] := by rw [e2, g7]
  clear his e1 e2 er hb2 g1 g7 v0 v1
  generalize bsB (fld1 l) = t1 at *
  generalize bsB (second l) = t2 at *
  generalize bsB (third l) = t3 at *
  generalize bsB (behind l) = tr at *
  generalize bsB l = s at *
  go_enter Tryd.func11, Tryd.ntmps11
  go_wp2_with (first | (go_at_call 25; (with_reducible refine (HF0.out).mono ?_); rintro e w1 ⟨rfl, hb⟩; have HS1 := Lib.hid (HS0.out.past hb); clear hb HF0) | (go_at_call 25; (with_reducible refine (HF1.out _).mono ?_); rintro e w2 ⟨rfl, hb⟩; have HS2 := Lib.hid (HS1.out.past hb); clear hb HF1) | (go_at_call 25; (with_reducible refine (HF2.out _).mono ?_); rintro e w3 ⟨rfl, hb⟩; have HS3 := Lib.hid (HS2.out.past hb); clear hb HF2; have HN := Lib.hid HS3.out.both; obtain ⟨⟨⟨c0, c1, c2, c3⟩, f0, f1, f2, f3⟩, n0, n1, n2, n3⟩ := HN.out.cells))
  go_loopw [11] (fun kk wr => ∃ k : Nat, kk = .int .i64 k ∧ k ≤ 2 ∧ wr = w3.alloc (.cells #[.int .i64 0, .int .i64 0, .bool false, .string ⟨#[]⟩] 24)) (fun kk _ => 4 - (intOf kk).toNat)
  case atStart => exact ⟨0, rfl, Nat.zero_le _, rfl⟩
  case round =>
    obtain ⟨k, rfl, hk, rfl⟩ := hrel
    rcases (by omega : k = 0 ∨ k = 1 ∨ k = 2) with rfl | rfl | rfl
    · go_wp2
      go_roundw
      case rel => exact ⟨1, by go_num, by omega, by first | trivial | rfl⟩
      case measure => simp [intOf]
    · go_wp2
      go_roundw
      case rel => exact ⟨2, by go_num, by omega, by first | trivial | rfl⟩
      case measure => simp [intOf]
    · have HX := Lib.hid (HN.out.past (belA (Below.refl (w3.alloc (.cells #[.int .i64 0, .int .i64 0, .bool false, .string ⟨#[]⟩] 24)).heap.size (w3.alloc (.cells #[.int .i64 0, .int .i64 0, .bool false, .string ⟨#[]⟩] 24))) (.cells #[.int .i64 3, .int .i64 0, .bool false, .string ⟨#[]⟩] 24)))
      obtain ⟨⟨⟨d0, d1, d2, d3⟩, i0, i1, i2, i3⟩, _⟩ := HX.out.cells
      go_wp2
      exact bodyPost_ret (v := .agg #[.int .i64 3, .int .i64 0, .bool false, .string ⟨#[]⟩]) (by simp [results, Tryd.results11, go_sem, *]) rfl ⟨rfl, below_sign HX.out.below (Nat.le_refl _) _ _ _ _⟩
end Go.Proofs.YtfibbdkfofnojaaDoor
