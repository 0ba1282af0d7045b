/- The walks of shell and Read. Written by mkrh.py. -/
import Derived.Test.YtkkhlmilcdlfoaaDoorRi
namespace Go.Proofs.YtkkhlmilcdlfoaaDoor
open Go.RowKit Go.Shelf

def second (l : List UInt8) : List UInt8 := fld1 (behind l)
def isSg (v : Value) : Prop := ∃ k z h t, v = .agg #[.int .i64 k, .int .i64 z, .bool h, .string t]
theorem isSg_sg (k z : Int) (h : Bool) (t : ByteArray) : isSg (sgV k z h t) := ⟨_, _, _, _, rfl⟩
theorem isSg_ite {c : Prop} [Decidable c] {a b : Value} (ha : isSg a) (hb : isSg b) : isSg (if c then a else b) := by
  split
  · exact ha
  · exact hb
theorem told_sg (l w : List UInt8) : isSg (toldV l w) := isSg_ite (isSg_sg _ _ _ _) (isSg_ite (isSg_sg _ _ _ _) (isSg_sg _ _ _ _))
def shellV (l f : List UInt8) : Value := if second l = [65] then sgV 1 0 false ⟨#[]⟩ else if second l = [66] then sgV 2 0 false ⟨#[]⟩ else if second l = [67] then sgV 3 0 false ⟨#[]⟩ else if second l = [68] then doneV l else if f = [54, 51, 51] then toldV l (second l) else zeroV
theorem shell_sg (l f : List UInt8) : isSg (shellV l f) := isSg_ite (isSg_sg _ _ _ _) (isSg_ite (isSg_sg _ _ _ _) (isSg_ite (isSg_sg _ _ _ _) (isSg_ite (isSg_sg _ _ _ _) (isSg_ite (told_sg _ _) (isSg_sg _ _ _ _)))))
theorem address_sg (l : List UInt8) : isSg (addressV l) := by
  unfold addressV
  split
  · exact isSg_sg _ _ _ _
  · exact isSg_sg _ _ _ _
theorem command_sg (l : List UInt8) : isSg (commandV l) := isSg_ite (isSg_sg _ _ _ _) (isSg_ite (isSg_sg _ _ _ _) (isSg_sg _ _ _ _))
theorem title_sg (l : List UInt8) : isSg (titleV l) := isSg_ite (isSg_sg _ _ _ _) (isSg_sg _ _ _ _)
set_option maxRecDepth 100000 in
set_option maxHeartbeats 4000000 in
theorem shell_any (l f : List UInt8) (hl : l.length ≤ 1200) (w : World) (hO : OT w) : Calls Tryd.prog 21 #[.agg #[.string (bsB l), .string (bsB f)]] w fun e w' => e = .returned (shellV l f) ∧ Below w.heap.size w w' := by
  have HS := Lib.hid (RB.start w (.string (bsB l)) (.string (bsB f)))
  have HF := Lib.hid (field_any l (by omega) 1 (by decide) _ (hO.ml.past HS.out.below))
  change Hid (Calls _ _ #[.agg #[.string (bsB l)], .int .i64 1] _ fun e w' => e = .returned (.tuple #[.string (bsB (second l)), .bool (fromL l 1).isSome]) ∧ _) at HF
  have e0 : (bsB (second l)).toList = second l := bs_toList _
  have e9 : (bsB f).toList = f := bs_toList _
  have HD := Lib.hid fun (W : World) (h : RB w W (.string (bsB l)) (.string (bsB f))) => done_any l f hl W (hO.past h.below)
  have HT := Lib.hid fun (W : World) (h : RB w W (.string (bsB l)) (.string (bsB f))) => told_any l f (second l) hl W (hO.past h.below)
  unfold shellV
  by_cases g1 : second l = [65]
  · rw [if_pos g1]
    have e1 : (bsB (second l)).toList = [65] := by rw [e0, g1]
    unfold sgV
    clear hl hO HD HT e0 e9 g1
    generalize bsB (second l) = tw at *
    generalize (fromL l 1).isSome = b1 at *
    generalize bsB l = t at *
    generalize bsB f = tf at *
    go_enter Tryd.func21, Tryd.ntmps21
    go_wp2_with (first
      | (go_at_call 20; (with_reducible refine (HF.out).mono ?_); rintro e w1 ⟨rfl, hb⟩; have HS1 := Lib.hid (HS.out.past hb); obtain ⟨⟨r0, r1⟩, ⟨c0, c1, c2, c3⟩, f0, f1, f2, f3⟩ := HS1.out.cells; clear hb))
    exact bodyPost_ret (v := .agg #[.int .i64 1, .int .i64 0, .bool false, .string ⟨#[]⟩]) (by simp [results, Tryd.results21, go_sem, *]) rfl ⟨rfl, below_sign HS1.out.below (by omega) _ _ _ _⟩
  rw [if_neg g1]
  have e1 : ((bsB (second l)).toList == [65]) = false := by rw [e0]; exact beq_false_of_ne g1
  by_cases g2 : second l = [66]
  · rw [if_pos g2]
    have e2 : (bsB (second l)).toList = [66] := by rw [e0, g2]
    unfold sgV
    clear hl hO HD HT e0 e9 g1 g2
    generalize bsB (second l) = tw at *
    generalize (fromL l 1).isSome = b1 at *
    generalize bsB l = t at *
    generalize bsB f = tf at *
    go_enter Tryd.func21, Tryd.ntmps21
    go_wp2_with (first
      | (go_at_call 20; (with_reducible refine (HF.out).mono ?_); rintro e w1 ⟨rfl, hb⟩; have HS1 := Lib.hid (HS.out.past hb); obtain ⟨⟨r0, r1⟩, ⟨c0, c1, c2, c3⟩, f0, f1, f2, f3⟩ := HS1.out.cells; clear hb))
    exact bodyPost_ret (v := .agg #[.int .i64 2, .int .i64 0, .bool false, .string ⟨#[]⟩]) (by simp [results, Tryd.results21, go_sem, *]) rfl ⟨rfl, below_sign HS1.out.below (by omega) _ _ _ _⟩
  rw [if_neg g2]
  have e2 : ((bsB (second l)).toList == [66]) = false := by rw [e0]; exact beq_false_of_ne g2
  by_cases g3 : second l = [67]
  · rw [if_pos g3]
    have e3 : (bsB (second l)).toList = [67] := by rw [e0, g3]
    unfold sgV
    clear hl hO HD HT e0 e9 g1 g2 g3
    generalize bsB (second l) = tw at *
    generalize (fromL l 1).isSome = b1 at *
    generalize bsB l = t at *
    generalize bsB f = tf at *
    go_enter Tryd.func21, Tryd.ntmps21
    go_wp2_with (first
      | (go_at_call 20; (with_reducible refine (HF.out).mono ?_); rintro e w1 ⟨rfl, hb⟩; have HS1 := Lib.hid (HS.out.past hb); obtain ⟨⟨r0, r1⟩, ⟨c0, c1, c2, c3⟩, f0, f1, f2, f3⟩ := HS1.out.cells; clear hb))
    exact bodyPost_ret (v := .agg #[.int .i64 3, .int .i64 0, .bool false, .string ⟨#[]⟩]) (by simp [results, Tryd.results21, go_sem, *]) rfl ⟨rfl, below_sign HS1.out.below (by omega) _ _ _ _⟩
  rw [if_neg g3]
  have e3 : ((bsB (second l)).toList == [67]) = false := by rw [e0]; exact beq_false_of_ne g3
  by_cases g4 : second l = [68]
  · rw [if_pos g4]
    have e4 : (bsB (second l)).toList = [68] := by rw [e0, g4]
    obtain ⟨k, z, h, tt, hv⟩ := isSg_sg 4 (codeP (third l)).1 (codeP (third l)).2 ⟨#[]⟩
    replace hv : doneV l = _ := hv
    rw [hv] at HD ⊢
    clear hl hO HT e0 e9 g1 g2 g3 g4 hv
    generalize bsB (second l) = tw at *
    generalize (fromL l 1).isSome = b1 at *
    generalize bsB l = t at *
    generalize bsB f = tf at *
    go_enter Tryd.func21, Tryd.ntmps21
    go_wp2_with (first
      | (go_at_call 20; (with_reducible refine (HF.out).mono ?_); rintro e w1 ⟨rfl, hb⟩; have HS1 := Lib.hid (HS.out.past hb); obtain ⟨⟨r0, r1⟩, ⟨c0, c1, c2, c3⟩, f0, f1, f2, f3⟩ := HS1.out.cells; clear hb)
      | (go_at_call 43; (with_reducible refine (HD.out _ HS1.out).mono ?_); rintro e w2 ⟨rfl, hb⟩; have HS2 := Lib.hid (HS1.out.past hb); clear r0 r1 c0 c1 c2 c3 f0 f1 f2 f3; obtain ⟨⟨r0, r1⟩, ⟨c0, c1, c2, c3⟩, f0, f1, f2, f3⟩ := HS2.out.cells; clear hb))
    exact bodyPost_ret (v := .agg #[.int .i64 k, .int .i64 z, .bool h, .string tt]) (by simp [results, Tryd.results21, go_sem, *]) rfl ⟨rfl, below_sign HS2.out.below (by omega) _ _ _ _⟩
  rw [if_neg g4]
  have e4 : ((bsB (second l)).toList == [68]) = false := by rw [e0]; exact beq_false_of_ne g4
  by_cases g5 : f = [54, 51, 51]
  · rw [if_pos g5]
    have e5 : (bsB f).toList = [54, 51, 51] := by rw [e9, g5]
    obtain ⟨k, z, h, tt, hv⟩ := told_sg l (second l)
    rw [hv] at HT ⊢
    clear hl hO HD e0 e9 g1 g2 g3 g4 g5 hv
    generalize bsB (second l) = tw at *
    generalize (fromL l 1).isSome = b1 at *
    generalize bsB l = t at *
    generalize bsB f = tf at *
    go_enter Tryd.func21, Tryd.ntmps21
    go_wp2_with (first
      | (go_at_call 20; (with_reducible refine (HF.out).mono ?_); rintro e w1 ⟨rfl, hb⟩; have HS1 := Lib.hid (HS.out.past hb); obtain ⟨⟨r0, r1⟩, ⟨c0, c1, c2, c3⟩, f0, f1, f2, f3⟩ := HS1.out.cells; clear hb)
      | (go_at_call 44; (with_reducible refine (HT.out _ HS1.out).mono ?_); rintro e w2 ⟨rfl, hb⟩; have HS2 := Lib.hid (HS1.out.past hb); clear r0 r1 c0 c1 c2 c3 f0 f1 f2 f3; obtain ⟨⟨r0, r1⟩, ⟨c0, c1, c2, c3⟩, f0, f1, f2, f3⟩ := HS2.out.cells; clear hb))
    exact bodyPost_ret (v := .agg #[.int .i64 k, .int .i64 z, .bool h, .string tt]) (by simp [results, Tryd.results21, go_sem, *]) rfl ⟨rfl, below_sign HS2.out.below (by omega) _ _ _ _⟩
  · rw [if_neg g5]
    have e5 : ((bsB f).toList == [54, 51, 51]) = false := by rw [e9]; exact beq_false_of_ne g5
    unfold zeroV sgV
    clear hl hO HD HT e0 e9 g1 g2 g3 g4 g5
    generalize bsB (second l) = tw at *
    generalize (fromL l 1).isSome = b1 at *
    generalize bsB l = t at *
    generalize bsB f = tf at *
    go_enter Tryd.func21, Tryd.ntmps21
    go_wp2_with (first
      | (go_at_call 20; (with_reducible refine (HF.out).mono ?_); rintro e w1 ⟨rfl, hb⟩; have HS1 := Lib.hid (HS.out.past hb); obtain ⟨⟨r0, r1⟩, ⟨c0, c1, c2, c3⟩, f0, f1, f2, f3⟩ := HS1.out.cells; clear hb))
    exact bodyPost_ret (v := .agg #[.int .i64 0, .int .i64 0, .bool false, .string ⟨#[]⟩]) (by simp [results, Tryd.results21, go_sem, *]) rfl ⟨rfl, below_sign HS1.out.below (by omega) _ _ _ _⟩
end Go.Proofs.YtkkhlmilcdlfoaaDoor
