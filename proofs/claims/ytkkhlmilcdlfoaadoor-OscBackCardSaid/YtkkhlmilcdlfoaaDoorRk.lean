/- The walk of Read; the document's examples. Written by mkrh.py. -/
import Derived.Test.YtkkhlmilcdlfoaaDoorRj
import Derived.Laws.Rows
namespace Go.Proofs.YtkkhlmilcdlfoaaDoor
open Go.RowKit Go.Shelf

/-- The result and the reader in boxes. -/
structure QB (w W : World) (a b : Value) : Prop where
  below : Below w.heap.size w W
  rd : W.heap[w.heap.size + 1]? = some (.cells #[a, b] 36 (0, 0))
  sg : W.heap[w.heap.size]? = some (.cells #[.int .i64 0, .int .i64 0, .bool false, .string ⟨#[]⟩] 24 (0, 0))
theorem QB.start (w : World) (a b : Value) : QB w ((w.alloc (.cells #[.int .i64 0, .int .i64 0, .bool false, .string ⟨#[]⟩] 24)).alloc (.cells #[a, b] 36)) a b :=
  ⟨belA (belA (Below.refl _ _) _) _, heap_alloc2_new w _ _, heap_alloc2_old w _ _⟩
theorem QB.past {w W W' : World} {a b : Value} (h : QB w W a b) (hb : Below W.heap.size W W') : QB w W' a b :=
  ⟨bel0 h.below hb, (hb.block _ (Array.getElem?_eq_some_iff.1 h.rd).1).trans h.rd, (hb.block _ (Array.getElem?_eq_some_iff.1 h.sg).1).trans h.sg⟩
theorem QB.set {w W : World} {a b : Value} (h : QB w W a b) (v : Value) : QB w (W.setCell ⟨w.heap.size + 1, 1, none⟩ v) a v :=
  ⟨h.below.setCell (p := ⟨w.heap.size + 1, 1, none⟩) (by show w.heap.size ≤ w.heap.size + 1; omega) _, heap_setCell_same W _ 1 _ _ v h.rd, (heap_setCell_other W _ _ v (by show w.heap.size ≠ w.heap.size + 1; omega)).trans h.sg⟩
theorem QB.cells {w W : World} {a b : Value} (h : QB w W a b) : (W.cell? ⟨w.heap.size + 1, 0, none⟩ = some a ∧ W.cell? ⟨w.heap.size + 1, 1, none⟩ = some b ∧ W.frozen? ⟨w.heap.size + 1, 0, none⟩ = false ∧ W.frozen? ⟨w.heap.size + 1, 1, none⟩ = false) ∧ (W.cell? ⟨w.heap.size, 0, none⟩ = some (.int .i64 0) ∧ W.cell? ⟨w.heap.size, 1, none⟩ = some (.int .i64 0) ∧ W.cell? ⟨w.heap.size, 2, none⟩ = some (.bool false) ∧ W.cell? ⟨w.heap.size, 3, none⟩ = some (.string ⟨#[]⟩)) ∧ (W.frozen? ⟨w.heap.size, 0, none⟩ = false ∧ W.frozen? ⟨w.heap.size, 1, none⟩ = false ∧ W.frozen? ⟨w.heap.size, 2, none⟩ = false ∧ W.frozen? ⟨w.heap.size, 3, none⟩ = false) :=
  ⟨⟨cell_of_row _ _ 0 _ _ _ h.rd, cell_of_row _ _ 1 _ _ _ h.rd, Lib.frozen_of_heap h.rd 0, Lib.frozen_of_heap h.rd 1⟩, (sign_cells h.sg).1, (sign_cells h.sg).2⟩
/-- What a payload says. -/
def readV (l : List UInt8) : Value := if fld1 l = [49, 51, 51] ∨ fld1 l = [54, 51, 51] then shellV l (fld1 l) else if fld1 l = [55] then addressV l else if fld1 l = [49, 51, 51, 55] then commandV l else if fld1 l = [48] ∨ fld1 l = [50] then titleV l else zeroV
theorem read_sg (l : List UInt8) : isSg (readV l) := isSg_ite (shell_sg _ _) (isSg_ite (address_sg _) (isSg_ite (command_sg _) (isSg_ite (title_sg _) (isSg_sg _ _ _ _))))
set_option maxRecDepth 100000 in
set_option maxHeartbeats 4000000 in
theorem read_any (l : List UInt8) (hl : l.length ≤ 1200) (w : World) (hO : OT w) : Calls Tryd.prog 10 #[.string (bsB l)] w fun e w' => e = .returned (readV l) ∧ Below w.heap.size w w' := by
  have HS := Lib.hid (QB.start w (.string (bsB l)) (.string ⟨#[]⟩))
  have HF := Lib.hid (field_any l (by omega) 0 (by decide) _ (hO.ml.past HS.out.below))
  change Hid (Calls _ _ #[.agg #[.string (bsB l)], .int .i64 0] _ fun e w' => e = .returned (.tuple #[.string (bsB (fld1 l)), .bool true]) ∧ _) at HF
  have e0 : (bsB (fld1 l)).toList = fld1 l := bs_toList _
  have HA : Hid (∀ W, QB w W (.string (bsB l)) (.string (bsB (fld1 l))) → OT W) := Lib.hid fun W h => hO.past h.below
  unfold readV
  by_cases g1 : fld1 l = [49, 51, 51]
  · rw [if_pos (.inl g1)]
    have e1 : (bsB (fld1 l)).toList = [49, 51, 51] := by rw [e0, g1]
    have HX := Lib.hid fun (W : World) (h : QB w W (.string (bsB l)) (.string (bsB (fld1 l)))) => shell_any l (fld1 l) hl W (HA.out W h)
    obtain ⟨k, z, h, tt, hv⟩ := shell_sg l (fld1 l)
    rw [hv] at HX ⊢
    clear hl hO e0 HA hv g1
    generalize bsB (fld1 l) = tw at *
    generalize bsB l = t at *
    go_enter Tryd.func10, Tryd.ntmps10
    go_wp2_with (first
      | (go_at_call 20; (with_reducible refine (HF.out).mono ?_); rintro e w1 ⟨rfl, hb⟩; have HS1 := Lib.hid (HS.out.past hb); obtain ⟨⟨r0, r1, q0, q1⟩, ⟨c0, c1, c2, c3⟩, f0, f1, f2, f3⟩ := HS1.out.cells; clear hb)
      | (go_at_call 21; (with_reducible refine (HX.out _ (HS1.out.set _)).mono ?_); rintro e w2 ⟨rfl, hb⟩; have HS2 := Lib.hid ((HS1.out.set _).past hb); clear r0 r1 q0 q1 c0 c1 c2 c3 f0 f1 f2 f3; obtain ⟨⟨r0, r1, q0, q1⟩, ⟨c0, c1, c2, c3⟩, f0, f1, f2, f3⟩ := HS2.out.cells; clear hb))
    exact bodyPost_ret (v := .agg #[.int .i64 k, .int .i64 z, .bool h, .string tt]) (by simp [results, Tryd.results10, go_sem, *]) rfl ⟨rfl, below_sign HS2.out.below (Nat.le_refl _) _ _ _ _⟩
  have e1 : ((bsB (fld1 l)).toList == [49, 51, 51]) = false := by rw [e0]; exact beq_false_of_ne g1
  by_cases g2 : fld1 l = [54, 51, 51]
  · rw [if_pos (.inr g2)]
    have e2 : (bsB (fld1 l)).toList = [54, 51, 51] := by rw [e0, g2]
    have HX := Lib.hid fun (W : World) (h : QB w W (.string (bsB l)) (.string (bsB (fld1 l)))) => shell_any l (fld1 l) hl W (HA.out W h)
    obtain ⟨k, z, h, tt, hv⟩ := shell_sg l (fld1 l)
    rw [hv] at HX ⊢
    clear hl hO e0 HA hv g1 g2
    generalize bsB (fld1 l) = tw at *
    generalize bsB l = t at *
    go_enter Tryd.func10, Tryd.ntmps10
    go_wp2_with (first
      | (go_at_call 20; (with_reducible refine (HF.out).mono ?_); rintro e w1 ⟨rfl, hb⟩; have HS1 := Lib.hid (HS.out.past hb); obtain ⟨⟨r0, r1, q0, q1⟩, ⟨c0, c1, c2, c3⟩, f0, f1, f2, f3⟩ := HS1.out.cells; clear hb)
      | (go_at_call 21; (with_reducible refine (HX.out _ (HS1.out.set _)).mono ?_); rintro e w2 ⟨rfl, hb⟩; have HS2 := Lib.hid ((HS1.out.set _).past hb); clear r0 r1 q0 q1 c0 c1 c2 c3 f0 f1 f2 f3; obtain ⟨⟨r0, r1, q0, q1⟩, ⟨c0, c1, c2, c3⟩, f0, f1, f2, f3⟩ := HS2.out.cells; clear hb))
    exact bodyPost_ret (v := .agg #[.int .i64 k, .int .i64 z, .bool h, .string tt]) (by simp [results, Tryd.results10, go_sem, *]) rfl ⟨rfl, below_sign HS2.out.below (Nat.le_refl _) _ _ _ _⟩
  rw [if_neg (fun h => h.elim g1 g2)]
  have e2 : ((bsB (fld1 l)).toList == [54, 51, 51]) = false := by rw [e0]; exact beq_false_of_ne g2
  by_cases g3 : fld1 l = [55]
  · rw [if_pos g3]
    have e3 : (bsB (fld1 l)).toList = [55] := by rw [e0, g3]
    have HX := Lib.hid fun (W : World) (h : QB w W (.string (bsB l)) (.string (bsB (fld1 l)))) => address_any l (fld1 l) hl W (HA.out W h)
    obtain ⟨k, z, h, tt, hv⟩ := address_sg l
    rw [hv] at HX ⊢
    clear hl hO e0 HA hv g1 g2 g3
    generalize bsB (fld1 l) = tw at *
    generalize bsB l = t at *
    go_enter Tryd.func10, Tryd.ntmps10
    go_wp2_with (first
      | (go_at_call 20; (with_reducible refine (HF.out).mono ?_); rintro e w1 ⟨rfl, hb⟩; have HS1 := Lib.hid (HS.out.past hb); obtain ⟨⟨r0, r1, q0, q1⟩, ⟨c0, c1, c2, c3⟩, f0, f1, f2, f3⟩ := HS1.out.cells; clear hb)
      | (go_at_call 22; (with_reducible refine (HX.out _ (HS1.out.set _)).mono ?_); rintro e w2 ⟨rfl, hb⟩; have HS2 := Lib.hid ((HS1.out.set _).past hb); clear r0 r1 q0 q1 c0 c1 c2 c3 f0 f1 f2 f3; obtain ⟨⟨r0, r1, q0, q1⟩, ⟨c0, c1, c2, c3⟩, f0, f1, f2, f3⟩ := HS2.out.cells; clear hb))
    exact bodyPost_ret (v := .agg #[.int .i64 k, .int .i64 z, .bool h, .string tt]) (by simp [results, Tryd.results10, go_sem, *]) rfl ⟨rfl, below_sign HS2.out.below (Nat.le_refl _) _ _ _ _⟩
  rw [if_neg g3]
  have e3 : ((bsB (fld1 l)).toList == [55]) = false := by rw [e0]; exact beq_false_of_ne g3
  by_cases g4 : fld1 l = [49, 51, 51, 55]
  · rw [if_pos g4]
    have e4 : (bsB (fld1 l)).toList = [49, 51, 51, 55] := by rw [e0, g4]
    have HX := Lib.hid fun (W : World) (h : QB w W (.string (bsB l)) (.string (bsB (fld1 l)))) => command_any l (fld1 l) hl W (HA.out W h)
    obtain ⟨k, z, h, tt, hv⟩ := command_sg l
    rw [hv] at HX ⊢
    clear hl hO e0 HA hv g1 g2 g3 g4
    generalize bsB (fld1 l) = tw at *
    generalize bsB l = t at *
    go_enter Tryd.func10, Tryd.ntmps10
    go_wp2_with (first
      | (go_at_call 20; (with_reducible refine (HF.out).mono ?_); rintro e w1 ⟨rfl, hb⟩; have HS1 := Lib.hid (HS.out.past hb); obtain ⟨⟨r0, r1, q0, q1⟩, ⟨c0, c1, c2, c3⟩, f0, f1, f2, f3⟩ := HS1.out.cells; clear hb)
      | (go_at_call 23; (with_reducible refine (HX.out _ (HS1.out.set _)).mono ?_); rintro e w2 ⟨rfl, hb⟩; have HS2 := Lib.hid ((HS1.out.set _).past hb); clear r0 r1 q0 q1 c0 c1 c2 c3 f0 f1 f2 f3; obtain ⟨⟨r0, r1, q0, q1⟩, ⟨c0, c1, c2, c3⟩, f0, f1, f2, f3⟩ := HS2.out.cells; clear hb))
    exact bodyPost_ret (v := .agg #[.int .i64 k, .int .i64 z, .bool h, .string tt]) (by simp [results, Tryd.results10, go_sem, *]) rfl ⟨rfl, below_sign HS2.out.below (Nat.le_refl _) _ _ _ _⟩
  rw [if_neg g4]
  have e4 : ((bsB (fld1 l)).toList == [49, 51, 51, 55]) = false := by rw [e0]; exact beq_false_of_ne g4
  by_cases g5 : fld1 l = [48]
  · rw [if_pos (.inl g5)]
    have e5 : (bsB (fld1 l)).toList = [48] := by rw [e0, g5]
    have HX := Lib.hid fun (W : World) (h : QB w W (.string (bsB l)) (.string (bsB (fld1 l)))) => title_any l (fld1 l) hl W (HA.out W h)
    obtain ⟨k, z, h, tt, hv⟩ := title_sg l
    rw [hv] at HX ⊢
    clear hl hO e0 HA hv g1 g2 g3 g4 g5
    generalize bsB (fld1 l) = tw at *
    generalize bsB l = t at *
    go_enter Tryd.func10, Tryd.ntmps10
    go_wp2_with (first
      | (go_at_call 20; (with_reducible refine (HF.out).mono ?_); rintro e w1 ⟨rfl, hb⟩; have HS1 := Lib.hid (HS.out.past hb); obtain ⟨⟨r0, r1, q0, q1⟩, ⟨c0, c1, c2, c3⟩, f0, f1, f2, f3⟩ := HS1.out.cells; clear hb)
      | (go_at_call 24; (with_reducible refine (HX.out _ (HS1.out.set _)).mono ?_); rintro e w2 ⟨rfl, hb⟩; have HS2 := Lib.hid ((HS1.out.set _).past hb); clear r0 r1 q0 q1 c0 c1 c2 c3 f0 f1 f2 f3; obtain ⟨⟨r0, r1, q0, q1⟩, ⟨c0, c1, c2, c3⟩, f0, f1, f2, f3⟩ := HS2.out.cells; clear hb))
    exact bodyPost_ret (v := .agg #[.int .i64 k, .int .i64 z, .bool h, .string tt]) (by simp [results, Tryd.results10, go_sem, *]) rfl ⟨rfl, below_sign HS2.out.below (Nat.le_refl _) _ _ _ _⟩
  have e5 : ((bsB (fld1 l)).toList == [48]) = false := by rw [e0]; exact beq_false_of_ne g5
  by_cases g6 : fld1 l = [50]
  · rw [if_pos (.inr g6)]
    have e6 : (bsB (fld1 l)).toList = [50] := by rw [e0, g6]
    have HX := Lib.hid fun (W : World) (h : QB w W (.string (bsB l)) (.string (bsB (fld1 l)))) => title_any l (fld1 l) hl W (HA.out W h)
    obtain ⟨k, z, h, tt, hv⟩ := title_sg l
    rw [hv] at HX ⊢
    clear hl hO e0 HA hv g1 g2 g3 g4 g5 g6
    generalize bsB (fld1 l) = tw at *
    generalize bsB l = t at *
    go_enter Tryd.func10, Tryd.ntmps10
    go_wp2_with (first
      | (go_at_call 20; (with_reducible refine (HF.out).mono ?_); rintro e w1 ⟨rfl, hb⟩; have HS1 := Lib.hid (HS.out.past hb); obtain ⟨⟨r0, r1, q0, q1⟩, ⟨c0, c1, c2, c3⟩, f0, f1, f2, f3⟩ := HS1.out.cells; clear hb)
      | (go_at_call 24; (with_reducible refine (HX.out _ (HS1.out.set _)).mono ?_); rintro e w2 ⟨rfl, hb⟩; have HS2 := Lib.hid ((HS1.out.set _).past hb); clear r0 r1 q0 q1 c0 c1 c2 c3 f0 f1 f2 f3; obtain ⟨⟨r0, r1, q0, q1⟩, ⟨c0, c1, c2, c3⟩, f0, f1, f2, f3⟩ := HS2.out.cells; clear hb))
    exact bodyPost_ret (v := .agg #[.int .i64 k, .int .i64 z, .bool h, .string tt]) (by simp [results, Tryd.results10, go_sem, *]) rfl ⟨rfl, below_sign HS2.out.below (Nat.le_refl _) _ _ _ _⟩
  rw [if_neg (fun h => h.elim g5 g6)]
  have e6 : ((bsB (fld1 l)).toList == [50]) = false := by rw [e0]; exact beq_false_of_ne g6
  unfold zeroV sgV
  clear hl hO e0 HA g1 g2 g3 g4 g5 g6
  generalize bsB (fld1 l) = tw at *
  generalize bsB l = t at *
  go_enter Tryd.func10, Tryd.ntmps10
  go_wp2_with (first
    | (go_at_call 20; (with_reducible refine (HF.out).mono ?_); rintro e w1 ⟨rfl, hb⟩; have HS1 := Lib.hid (HS.out.past hb); obtain ⟨⟨r0, r1, q0, q1⟩, ⟨c0, c1, c2, c3⟩, f0, f1, f2, f3⟩ := HS1.out.cells; clear hb))
  exact bodyPost_ret (v := .agg #[.int .i64 0, .int .i64 0, .bool false, .string ⟨#[]⟩]) (by simp [results, Tryd.results10, go_sem, *]) rfl ⟨rfl, below_sign (HS1.out.set _).below (Nat.le_refl _) _ _ _ _⟩
end Go.Proofs.YtkkhlmilcdlfoaaDoor
