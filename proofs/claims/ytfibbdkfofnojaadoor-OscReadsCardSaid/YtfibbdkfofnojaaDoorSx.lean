/- The document's Read answers what Read answers. Written by mkrx.py. -/
import Derived.Test.YtfibbdkfofnojaaDoorRy
import Derived.Test.YtfibbdkfofnojaaDoorRz
namespace Go.Proofs.YtfibbdkfofnojaaDoor
open Go.RowKit

set_option maxRecDepth 100000 in
set_option maxHeartbeats 8000000 in
theorem refRead_otherx (l : List UInt8) (hl : l.length ≤ 1000) (w : World) (his : (fromL l 1).isSome = false) (g1 : fld1 l ≠ [49, 51, 51]) (g2 : fld1 l ≠ [54, 51, 51]) (g3 : fld1 l ≠ [55]) (g4 : fld1 l ≠ [49, 51, 51, 55]) (g5 : fld1 l ≠ [48]) (g6 : fld1 l ≠ [50]) : Calls Tryd.prog 11 #[.string (bsB l)] w fun e w' => e = .returned (zeroV) ∧ Below w.heap.size w w' := by
  have HS0 := Lib.hid (EA.start w)
  have HF0 := Lib.hid (refField_any l (by omega) 0 (by decide) (w.alloc (.cells #[.int .i64 0, .int .i64 0, .bool false, .string ⟨#[]⟩] 24)))
  change Hid (Calls _ _ #[.string (bsB l), .int .i64 0] _ fun e w' => e = .returned (.tuple #[.string (bsB (fld1 l)), .bool true]) ∧ _) at HF0
  have HF1 : Hid (∀ W, Calls Tryd.prog 25 #[.string (bsB l), .int .i64 1] W fun e w' => e = .returned (.tuple #[.string (bsB (second l)), .bool (fromL l 1).isSome]) ∧ Below W.heap.size W w') := Lib.hid fun W => refField_any l (by omega) 1 (by decide) W
  have HF2 : Hid (∀ W, Calls Tryd.prog 25 #[.string (bsB l), .int .i64 2] W fun e w' => e = .returned (.tuple #[.string (bsB (third l)), .bool (fromL l 2).isSome]) ∧ Below W.heap.size W w') := Lib.hid fun W => refField_any l (by omega) 2 (by decide) W
  have e1 : (bsB (fld1 l)).toList = fld1 l := bs_toList _
  have e2 : (bsB (second l)).toList = second l := bs_toList _
  have er : (bsB (behind l)).toList = behind l := bs_toList _
  obtain ⟨b2, hb2⟩ : ∃ b, b = (fromL l 2).isSome := ⟨_, rfl⟩
  rw [← hb2] at HF2
  rw [his] at HF1
  obtain ⟨hbr, hse⟩ := no_rest his
  unfold zeroV sgV
  have q1 : ((bsB (fld1 l)).toList == [49, 51, 51]) = false := by rw [e1]; exact beq_false_of_ne g1
  have q2 : ((bsB (fld1 l)).toList == [54, 51, 51]) = false := by rw [e1]; exact beq_false_of_ne g2
  have q3 : ((bsB (fld1 l)).toList == [55]) = false := by rw [e1]; exact beq_false_of_ne g3
  have q4 : ((bsB (fld1 l)).toList == [49, 51, 51, 55]) = false := by rw [e1]; exact beq_false_of_ne g4
  have q5 : ((bsB (fld1 l)).toList == [48]) = false := by rw [e1]; exact beq_false_of_ne g5
  have q6 : ((bsB (fld1 l)).toList == [50]) = false := by rw [e1]; exact beq_false_of_ne g6
  clear his e1 e2 er hb2 g1 g2 g3 g4 g5 g6 hbr hse
  generalize bsB (fld1 l) = t1 at *
  generalize bsB (second l) = t2 at *
  generalize bsB (third l) = t3 at *
  generalize bsB (behind l) = tr at *
  generalize bsB l = s at *
  go_enter Tryd.func11, Tryd.ntmps11
  go_wp2_with (first | (go_at_call 25; (with_reducible refine (HF0.out).mono ?_); rintro e w1 ⟨rfl, hb⟩; have HS1 := Lib.hid (HS0.out.past hb); clear hb HF0) | (go_at_call 25; (with_reducible refine (HF1.out _).mono ?_); rintro e w2 ⟨rfl, hb⟩; have HS2 := Lib.hid (HS1.out.past hb); clear hb HF1) | (go_at_call 25; (with_reducible refine (HF2.out _).mono ?_); rintro e w3 ⟨rfl, hb⟩; have HS3 := Lib.hid (HS2.out.past hb); clear hb HF2; have HN := Lib.hid HS3.out.both; obtain ⟨⟨⟨c0, c1, c2, c3⟩, f0, f1, f2, f3⟩, n0, n1, n2, n3⟩ := HN.out.cells))
  exact bodyPost_ret (v := .agg #[.int .i64 0, .int .i64 0, .bool false, .string ⟨#[]⟩]) (by simp [results, Tryd.results11, go_sem, *]) rfl ⟨rfl, below_sign HN.out.below (Nat.le_refl _) _ _ _ _⟩
theorem readV_none {l : List UInt8} (h : (fromL l 1).isSome = false) : readV l = zeroV := by
  obtain ⟨hbr, hse⟩ := no_rest h
  unfold readV
  split
  · unfold shellV
    rw [hse, if_neg (by decide), if_neg (by decide), if_neg (by decide), if_neg (by decide)]
    split
    · unfold toldV
      rw [if_neg (fun h => absurd h.1 (by decide)), if_neg (fun h => absurd h.1 (by decide))]
    · rfl
  · split
    · unfold addressV
      rw [hbr]
      rfl
    · split
      · unfold commandV
        rw [hbr, if_neg (by decide), if_neg (by decide)]
      · split
        · unfold titleV
          rw [h]
          rfl
        · rfl
theorem third_none {l : List UInt8} (h : (fromL l 2).isSome = false) : third l = [] := by
  unfold third
  cases hf : fromL l 2 with
  | none => rfl
  | some t => rw [hf] at h; cases h
theorem refRead_any (l : List UInt8) (hl : l.length ≤ 1000) (w : World) : Calls Tryd.prog 11 #[.string (bsB l)] w fun e w' => e = .returned (readV l) ∧ Below w.heap.size w w' := by
  cases his : (fromL l 1).isSome with
  | false =>
    rw [readV_none his]
    by_cases g1 : fld1 l = [49, 51, 51]
    · exact refRead_133x l hl w his g1
    by_cases g2 : fld1 l = [54, 51, 51]
    · exact refRead_633x l hl w his g2
    by_cases g3 : fld1 l = [55]
    · exact refRead_7x l hl w his g3
    by_cases g4 : fld1 l = [49, 51, 51, 55]
    · exact refRead_1337x l hl w his g4
    by_cases g5 : fld1 l = [48]
    · exact refRead_0n l hl w his g5
    by_cases g6 : fld1 l = [50]
    · exact refRead_2n l hl w his g6
    exact refRead_otherx l hl w his g1 g2 g3 g4 g5 g6
  | true =>
    by_cases g1 : fld1 l = [49, 51, 51]
    · rw [show readV l = shellV l (fld1 l) by unfold readV; rw [if_pos (.inl g1)]]
      unfold shellV
      by_cases v0 : second l = [65]
      · rw [if_pos v0]
        exact refRead_133_0 l hl w his g1  v0
      rw [if_neg v0]
      by_cases v1 : second l = [66]
      · rw [if_pos v1]
        exact refRead_133_1 l hl w his g1 v0 v1
      rw [if_neg v1]
      by_cases v2 : second l = [67]
      · rw [if_pos v2]
        exact refRead_133_2 l hl w his g1 v0 v1 v2
      rw [if_neg v2]
      by_cases v3 : second l = [68]
      · rw [if_pos v3]
        cases gh : (fromL l 2).isSome with
        | true => exact refRead_133_3y l hl w his g1 v0 v1 v2 v3 gh
        | false =>
          rw [show doneV l = sgV 4 0 false ⟨#[]⟩ by unfold doneV; rw [third_none gh]; rfl]
          exact refRead_133_3n l hl w his g1 v0 v1 v2 v3 gh
      rw [if_neg v3]
      rw [if_neg (by rw [g1]; decide)]
      exact refRead_133_n l hl w his g1 v0 v1 v2 v3
    by_cases g2 : fld1 l = [54, 51, 51]
    · rw [show readV l = shellV l (fld1 l) by unfold readV; rw [if_pos (.inr g2)]]
      unfold shellV
      by_cases v0 : second l = [65]
      · rw [if_pos v0]
        exact refRead_633_0 l hl w his g2  v0
      rw [if_neg v0]
      by_cases v1 : second l = [66]
      · rw [if_pos v1]
        exact refRead_633_1 l hl w his g2 v0 v1
      rw [if_neg v1]
      by_cases v2 : second l = [67]
      · rw [if_pos v2]
        exact refRead_633_2 l hl w his g2 v0 v1 v2
      rw [if_neg v2]
      by_cases v3 : second l = [68]
      · rw [if_pos v3]
        cases gh : (fromL l 2).isSome with
        | true => exact refRead_633_3y l hl w his g2 v0 v1 v2 v3 gh
        | false =>
          rw [show doneV l = sgV 4 0 false ⟨#[]⟩ by unfold doneV; rw [third_none gh]; rfl]
          exact refRead_633_3n l hl w his g2 v0 v1 v2 v3 gh
      rw [if_neg v3]
      rw [if_pos g2]
      unfold toldV
      by_cases v5 : second l = [69]
      · cases gh : (fromL l 2).isSome with
        | true =>
          rw [if_pos ⟨v5, rfl⟩]
          exact refRead_633_Ey l hl w his g2 v5 gh
        | false =>
          rw [if_neg (fun h => absurd h.2 (by decide)), if_neg (fun h => by rw [v5] at h; exact absurd h.1 (by decide))]
          exact refRead_633_En l hl w his g2 v5 gh
      rw [if_neg (fun h => v5 h.1)]
      by_cases v6 : second l = [80]
      · by_cases gp : Lib.hasPrefix (third l) cwdT = true
        · rw [if_pos ⟨v6, gp⟩]
          exact refRead_633_Py l hl w his g2 v6 gp
        · rw [if_neg (fun h => gp h.2)]
          exact refRead_633_Pn l hl w his g2 v6 gp
      rw [if_neg (fun h => v6 h.1)]
      exact refRead_633_n l hl w his g2 v0 v1 v2 v3 v5 v6
    have g12 : ¬ (fld1 l = [49, 51, 51] ∨ fld1 l = [54, 51, 51]) := fun h => h.elim g1 g2
    by_cases g3 : fld1 l = [55]
    · rw [show readV l = addressV l by unfold readV; rw [if_neg g12, if_pos g3]]
      unfold addressV
      cases gf : fileL (behind l) with
      | none => exact refRead_7n l hl w his g3 gf
      | some hp => exact refRead_7y l hl w his g3 hp.1 hp.2 gf
    by_cases g4 : fld1 l = [49, 51, 51, 55]
    · rw [show readV l = commandV l by unfold readV; rw [if_neg g12, if_neg g3, if_pos g4]]
      unfold commandV
      by_cases gm : behind l = markT
      · rw [if_pos gm]
        exact refRead_1337m l hl w his g4 gm
      rw [if_neg gm]
      by_cases gp : Lib.hasPrefix (behind l) curT = true
      · rw [if_pos gp]
        exact refRead_1337y l hl w his g4 gm gp
      · rw [if_neg gp]
        exact refRead_1337n l hl w his g4 gm gp
    by_cases g5 : fld1 l = [48]
    · rw [show readV l = sgV 8 0 false (bsB (cut256 (behind l))) by unfold readV; rw [if_neg g12, if_neg g3, if_neg g4, if_pos (.inl g5)]; unfold titleV; rw [his]; rfl]
      exact refRead_0 l hl w his g5
    by_cases g6 : fld1 l = [50]
    · rw [show readV l = sgV 8 0 false (bsB (cut256 (behind l))) by unfold readV; rw [if_neg g12, if_neg g3, if_neg g4, if_pos (.inr g6)]; unfold titleV; rw [his]; rfl]
      exact refRead_2 l hl w his g6
    rw [show readV l = zeroV by unfold readV; rw [if_neg g12, if_neg g3, if_neg g4, if_neg (fun h => h.elim g5 g6)]]
    exact refRead_other l hl w his g1 g2 g3 g4 g5 g6
set_option maxRecDepth 100000 in
set_option maxHeartbeats 4000000 in
theorem oscReads_law (l : List UInt8) (hL : l.length ≤ 9223372036854775807) (w : World) (hO : OT w) : Calls Tryd.prog 3 #[.string (bsB l)] w fun e w' => e = .returned (.bool true) ∧ Below w.heap.size w w' := by
  have HA := Lib.hid fun (W : World) (hW : Below w.heap.size w W) => awake_any W (hO.past hW)
  have HBc : Hid (Below w.heap.size w w) := Lib.hid (Below.refl _ _)
  by_cases h3 : 700 < l.length
  · have hs : (700 : Int) < (bsB l).size := by rw [bsB_size]; omega
    clear h3
    generalize bsB l = t at *
    go_enter Tryd.func3, Tryd.ntmps3
    go_wp2_with (first
      | (go_at_call 9; (with_reducible refine (HA.out _ HBc.out).mono ?_); rintro e wx ⟨rfl, hb⟩; have HBc := Lib.hid (bel0 HBc.out hb); clear hb))
    go_ret
    exact ⟨rfl, HBc.out⟩
  have hs : ((bsB l).size : Int) ≤ 700 := by rw [bsB_size]; omega
  obtain ⟨k, z, b, t, hv⟩ := read_sg l
  have HC : Hid (∀ W, Below w.heap.size w W → Calls Tryd.prog 10 #[.string (bsB l)] W fun e w' => e = .returned (.agg #[.int .i64 k, .int .i64 z, .bool b, .string t]) ∧ Below W.heap.size W w') := Lib.hid fun W hW => by
    have h := read_any l (by omega) W (hO.past hW)
    rwa [hv] at h
  have HR : Hid (∀ W, Below w.heap.size w W → Calls Tryd.prog 11 #[.string (bsB l)] W fun e w' => e = .returned (.agg #[.int .i64 k, .int .i64 z, .bool b, .string t]) ∧ Below W.heap.size W w') := Lib.hid fun W hW => by
    have h := refRead_any l (by omega) W
    rwa [hv] at h
  clear h3 hv
  generalize bsB l = s at *
  go_enter Tryd.func3, Tryd.ntmps3
  go_wp2_with (first
    | (go_at_call 10; (with_reducible refine (HC.out _ HBc.out).mono ?_); rintro e wx ⟨rfl, hb⟩; have HBc := Lib.hid (bel0 HBc.out hb); clear hb)
    | (go_at_call 11; (with_reducible refine (HR.out _ HBc.out).mono ?_); rintro e wx ⟨rfl, hb⟩; have HBc := Lib.hid (bel0 HBc.out hb); clear hb)
    | (go_at_call 9; (with_reducible refine (HA.out _ HBc.out).mono ?_); rintro e wx ⟨rfl, hb⟩; have HBc := Lib.hid (bel0 HBc.out hb); clear hb))
  go_ret
  exact ⟨rfl, HBc.out⟩
end Go.Proofs.YtfibbdkfofnojaaDoor
