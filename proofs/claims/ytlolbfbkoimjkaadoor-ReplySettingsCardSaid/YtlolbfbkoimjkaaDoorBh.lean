/- The walk of Text. -/
import Derived.Test.YtlolbfbkoimjkaaDoorBg
namespace Go.Proofs.YtlolbfbkoimjkaaDoor
open Go.RowKit

set_option maxRecDepth 100000 in
theorem box_kept {w W1 W : World} {v0 v1 v2 v3 v4 : Value} (h1 : Below (w.alloc (.cells #[v0, v1, v2, v3, v4] 29)).heap.size (w.alloc (.cells #[v0, v1, v2, v3, v4] 29)) W1) (h : Below W1.heap.size W1 W) :
    W.cell? ⟨w.heap.size, 0, none⟩ = some v0 ∧ W.cell? ⟨w.heap.size, 1, none⟩ = some v1 ∧ W.cell? ⟨w.heap.size, 2, none⟩ = some v2 ∧ W.cell? ⟨w.heap.size, 3, none⟩ = some v3 ∧ W.cell? ⟨w.heap.size, 4, none⟩ = some v4 := by
  have hz := sz1 h1
  have hb : W.heap[w.heap.size]? = some (.cells #[v0, v1, v2, v3, v4] 29 (0, 0)) := (h.block _ hz).trans ((h1.block _ (by simp)).trans (heap_alloc_new w _))
  exact ⟨cell_of_row W _ 0 _ _ _ hb, cell_of_row W _ 1 _ _ _ hb, cell_of_row W _ 2 _ _ _ hb, cell_of_row W _ 3 _ _ _ hb, cell_of_row W _ 4 _ _ _ hb⟩
set_option maxRecDepth 100000 in
theorem colNums_range (which k n : Int) (hw : 0 ≤ which ∧ which ≤ 48) (h : colorB k n = true) : (∀ z ∈ colNums which k n, 0 ≤ z ∧ z ≤ 255) ∧ (colNums which k n).length ≤ 5 := by
  unfold colNums
  by_cases h1 : k = 1
  · subst h1
    have hn : 0 ≤ n ∧ n ≤ 255 := by simpa [colorB] using h
    rw [if_pos rfl]
    exact ⟨by simp; omega, by simp⟩
  · rw [if_neg h1]
    by_cases h2 : k = 2
    · subst h2
      have hn : 0 ≤ n ∧ n ≤ 16777215 := by simpa [colorB] using h
      rw [if_pos rfl]
      exact ⟨by simp; omega, by simp⟩
    · rw [if_neg h2]
      exact ⟨by simp, by simp⟩
set_option maxRecDepth 100000 in
theorem attrText_no (a : AT) (w : World) (h : rightB a.fk a.fn a.bk a.bn a.fl = false) : Calls Tryd.prog 26 #[a.val] w fun e w' => e = .returned (.string ⟨#[]⟩) ∧ Below w.heap.size w w' := by
  have HR := Lib.hid (fun W => right_any a.fk a.fn a.bk a.bn a.fl W)
  rw [h] at HR
  clear h
  show Calls Tryd.prog 26 #[.agg #[.int .i64 a.fk, .int .i64 a.fn, .int .i64 a.bk, .int .i64 a.bn, .int .i64 a.fl]] w _
  go_enter Tryd.func26, Tryd.ntmps26
  go_wp2_with (go_at_call 36; (with_reducible refine (HR.out _).mono ?_); rintro e w2 ⟨rfl, hb2⟩; have HB2 := Lib.hid (bel1 (Below.refl _ w) hb2); clear hb2)
  go_ret
  exact ⟨rfl, HB2.out⟩

set_option maxRecDepth 100000 in
set_option maxHeartbeats 8000000 in
theorem attrText_any (a : AT) (w : World) (h : rightB a.fk a.fn a.bk a.bn a.fl = true) (hT : TT w) (hT10 : T10 w.heap.size w) :
    Calls Tryd.prog 26 #[a.val] w fun e w' => e = .returned (.string (bsB (layT [] (numsP a)))) ∧ Below w.heap.size w w' := by
  have HR := Lib.hid (fun W => right_any a.fk a.fn a.bk a.bn a.fl W)
  rw [h] at HR
  have hcf : colorB a.fk a.fn = true := by unfold rightB at h; simp only [Bool.and_eq_true] at h; exact h.1
  have hcb : colorB a.bk a.bn = true := by unfold rightB at h; simp only [Bool.and_eq_true] at h; exact h.2.1
  have HTT : Hid (∃ tt fr, ∀ W, Below w.heap.size w W → W.heap[0]? = some (.cells turnsA tt fr)) := Lib.hid (by
    obtain ⟨tt, fr, hh⟩ := hT
    exact ⟨tt, fr, fun W hW => (hW.block _ (Array.getElem?_eq_some_iff.1 hh).1).trans hh⟩)
  obtain ⟨tt, fr, ht0⟩ := HTT.out
  have HT := Lib.hid ht0
  clear ht0
  have HIX := Lib.hid turns_index
  have hsz : (Tryd.prog.info? 63).map (·.size) = some turnsA.size := by kernel_rfl
  have HSZ := Lib.hid hsz
  have HLAY : Hid (∀ W2 W T A n c x, Below w.heap.size w W2 → 0 ≤ x → x ≤ 55 → YR W2 W T (.slice A n c) → T.length ≤ 1000 → Calls Tryd.prog 37 #[.slice A n c, .slice (some ⟨W.heap.size, 0, none⟩) 1 1] (W.alloc (.cells #[.int .i64 x] 3)) (LayPost W2 W (layT T [x]))) := Lib.hid fun W2 W T A n c x hW h0 h1 hy hl => lay_new W2 T _ [x] 1 rfl (by decide) W hy (by simp; omega) hl (hT10.on hW hW.size)
  have HCF : Hid (∀ W2 W T A n c, Below w.heap.size w W2 → YR W2 W T (.slice A n c) → T.length ≤ 1000 → Calls Tryd.prog 38 #[.slice A n c, .int .i64 38, .agg #[.int .i64 a.fk, .int .i64 a.fn]] W (LayPost W2 W (layT T (colNums 38 a.fk a.fn)))) := Lib.hid fun W2 W T A n c hW hy hl => layColor_any W2 T _ 38 a.fk a.fn W hy (.inl rfl) hcf hl (hT10.on hW hW.size)
  have HCB : Hid (∀ W2 W T A n c, Below w.heap.size w W2 → YR W2 W T (.slice A n c) → T.length ≤ 1000 → Calls Tryd.prog 38 #[.slice A n c, .int .i64 48, .agg #[.int .i64 a.bk, .int .i64 a.bn]] W (LayPost W2 W (layT T (colNums 48 a.bk a.bn)))) := Lib.hid fun W2 W T A n c hW hy hl => layColor_any W2 T _ 48 a.bk a.bn W hy (.inr rfl) hcb hl (hT10.on hW hW.size)
  have HCFL : Hid (∀ T, (layT T (colNums 38 a.fk a.fn)).length ≤ T.length + 110) := Lib.hid fun T => by
    obtain ⟨h1, h2⟩ := colNums_range 38 a.fk a.fn (by decide) hcf
    have := layT_len T (colNums 38 a.fk a.fn) (fun z hz => by have := h1 z hz; omega)
    omega
  have HFIN : Hid (layT (layT (layT [] (0 :: flagNums a.fl 18)) (colNums 38 a.fk a.fn)) (colNums 48 a.bk a.bn) = layT [] (numsP a)) := Lib.hid (by
    rw [layT_one, layT_one, numsP, List.append_assoc]
    exact congrArg (layT []) (List.cons_append ..))
  generalize layT [] (numsP a) = FIN at *
  have HSTP := Lib.hid (flagNums_step a.fl)
  have HL0 : Hid ((layT [] [0]).length ≤ 22 * (0 + 1)) := Lib.hid (by
    have := layT_len [] [0] (by simp)
    simpa using this)
  have HSTART : Hid (∀ W, YR W W [] (.slice none 0 0)) := Lib.hid fun W => ⟨Below.refl _ _, World.ownsRow_nil _ _ _ _⟩
  clear h hcf hcb hT hT10 hsz HTT
  unfold LayPost at HLAY HCF HCB
  generalize turnsA = TA at *
  generalize colNums 38 a.fk a.fn = C1 at *
  generalize colNums 48 a.bk a.bn = C2 at *
  show Calls Tryd.prog 26 #[.agg #[.int .i64 a.fk, .int .i64 a.fn, .int .i64 a.bk, .int .i64 a.bn, .int .i64 a.fl]] w _
  generalize a.fk = fk at *
  generalize a.fn = fn at *
  generalize a.bk = bk at *
  generalize a.bn = bn at *
  generalize a.fl = fl at *
  go_enter Tryd.func26, Tryd.ntmps26
  go_wp2_with (first
    | (go_at_call 36; (with_reducible refine (HR.out _).mono ?_); rintro e w2 ⟨rfl, hb2⟩; have HB2 := Lib.hid (bel1 (Below.refl _ w) hb2); have HBX := Lib.hid (fun W (hW : Below w2.heap.size w2 W) => box_kept hb2 hW); clear hb2)
    | (go_at_call 37; (with_reducible refine (HLAY.out w2 w2 [] none 0 0 0 HB2.out (by decide) (by decide) (HSTART.out w2) (by simp)).mono ?_); rintro e w3 ⟨A3, c3, rfl, hy3, _⟩; have HY3 := Lib.hid hy3; clear hy3)
    | (refine wpList_load_row rfl 63 _ rfl 0 rfl tt TA fr _ (HT.out _ (bel0 HB2.out HY3.out.below)) Tryd.underlying63 rfl HSZ.out ?_))
  go_loopw [3, 12] (fun bb ii wr => ∃ (k n' : Nat) (T : List UInt8) (A : Option Addr) (c' : Nat), k ≤ 18 ∧ ii = .int .i64 k ∧ bb = .slice A n' c' ∧ n' ≤ 22 * (k + 1) ∧ Hid (n' = T.length) ∧ Hid (T = layT [] (0 :: flagNums fl k)) ∧ Hid (YR w2 wr T (.slice A n' c'))) (fun _ ii _ => 18 - (intOf ii).toNat)
  case atStart => exact ⟨0, _, _, _, _, Nat.zero_le _, rfl, rfl, HL0.out, Lib.hid rfl, Lib.hid rfl, HY3⟩
  case round =>
    clear HY3 HSTART
    obtain ⟨k, n', T, A, c', hk, rfl, rfl, hn', HN, HTE, HY⟩ := hrel
    obtain ⟨x0, x1, x2, x3, x4⟩ := HBX.out _ HY.out.below
    by_cases hlt : k < 18
    · have hki : (k : Int) < 18 := by omega
      have hix := fun W => HIX.out k hlt W
      have HS := Lib.hid (HSTP.out k hlt)
      have hrn := rowN_range k hlt
      generalize rowN k = rn at *
      generalize rowOn k = ron at *
      generalize rowOff k = rof at *
      obtain ⟨hr0, hr1⟩ := hrn
      obtain ⟨-, -, -, -, z4⟩ := HBX.out _ (belA HY.out.below (.cells #[.int .i64 rn, .int .i64 ron, .int .i64 rof] 62))
      cases hh : (bits .and .i64 fl ron != 0) with
      | true =>
        have HNX : Hid (layT [] (0 :: flagNums fl (k + 1)) = layT T [rn]) := Lib.hid (by
          rw [HS.out, hh, if_pos rfl, HTE.out, layT_one]
          rfl)
        have HLEN : Hid ((layT T [rn]).length ≤ 22 * (k + 1 + 1)) := Lib.hid (by
          have := layT_len T [rn] (by simp; omega)
          have e := HN.out
          simp at this
          omega)
        have HL1 : Hid (∀ W, YR w2 W T (.slice A n' c') → Calls Tryd.prog 37 #[.slice A n' c', .slice (some ⟨W.heap.size, 0, none⟩) 1 1] (W.alloc (.cells #[.int .i64 rn] 3)) fun e w' => ∃ A c, e = .returned (.slice A (layT T [rn]).length c) ∧ YR w2 w' (layT T [rn]) (.slice A (layT T [rn]).length c) ∧ Lib.OthersKept 5 none W w') := Lib.hid fun W hy => HLAY.out w2 W T A n' c' rn HB2.out hr0 hr1 hy (by have := HN.out; omega)
        have HYA : Hid (∀ o, YR w2 (wr.alloc o) T (.slice A n' c')) := Lib.hid fun o => HY.out.past ((Below.refl _ _).alloc (Nat.le_refl _) _)
        have HL2 : Hid (Calls Tryd.prog 37 #[.slice A n' c', .slice (some ⟨wr.heap.size + 1, 0, none⟩) 1 1] ((wr.alloc (.cells #[.int .i64 rn, .int .i64 ron, .int .i64 rof] 62)).alloc (.cells #[.int .i64 rn] 3)) fun e w' => ∃ A c, e = .returned (.slice A (layT T [rn]).length c) ∧ YR w2 w' (layT T [rn]) (.slice A (layT T [rn]).length c)) := Lib.hid (by
          have h := HL1.out _ (HYA.out (.cells #[.int .i64 rn, .int .i64 ron, .int .i64 rof] 62))
          rw [show (wr.alloc (.cells #[.int .i64 rn, .int .i64 ron, .int .i64 rof] 62)).heap.size = wr.heap.size + 1 by simp] at h
          exact h.mono fun e w' ⟨A, c, h1, h2, _⟩ => ⟨A, c, h1, h2⟩)
        clear HS HL1 HYA HTE HN
        generalize layT T [rn] = T2 at *
        go_wp2_with (go_at_call 37; (with_reducible refine HL2.out.mono ?_); rintro e w5 ⟨A5, c5, rfl, hy5⟩; have HY5 := Lib.hid hy5; clear hy5)
        go_roundw
        case rel => exact ⟨k + 1, _, T2, _, _, hlt, by go_num, rfl, HLEN.out, Lib.hid rfl, Lib.hid HNX.out.symm, HY5⟩
        case measure => simp [intOf]; omega
      | false =>
        have HNX : Hid (layT [] (0 :: flagNums fl (k + 1)) = T) := Lib.hid (by
          rw [HS.out, hh, if_neg (by decide), HTE.out, List.append_nil])
        have HYA : Hid (∀ o, YR w2 (wr.alloc o) T (.slice A n' c')) := Lib.hid fun o => HY.out.past ((Below.refl _ _).alloc (Nat.le_refl _) _)
        clear HS HTE
        go_wp2
        go_roundw
        case rel => exact ⟨k + 1, _, T, _, _, hlt, by go_num, rfl, by omega, HN, Lib.hid HNX.out.symm, HYA.out _⟩
        case measure => simp [intOf]; omega
    · obtain rfl : k = 18 := by omega
      have hTl : T.length ≤ 418 := by have := HN.out; omega
      have HC1 : Hid (∀ W, YR w2 W T (.slice A n' c') → Calls Tryd.prog 38 #[.slice A n' c', .int .i64 38, .agg #[.int .i64 fk, .int .i64 fn]] W fun e w' => ∃ A c, e = .returned (.slice A (layT T C1).length c) ∧ YR w2 w' (layT T C1) (.slice A (layT T C1).length c) ∧ Lib.OthersKept 5 none W w') := Lib.hid fun W hy => HCF.out w2 W T A n' c' HB2.out hy (by omega)
      have HC2 : Hid (∀ W A n c, YR w2 W (layT T C1) (.slice A n c) → Calls Tryd.prog 38 #[.slice A n c, .int .i64 48, .agg #[.int .i64 bk, .int .i64 bn]] W fun e w' => ∃ A c, e = .returned (.slice A FIN.length c) ∧ YR w2 w' FIN (.slice A FIN.length c) ∧ Lib.OthersKept 5 none W w') := Lib.hid fun W A n c hy => by
        have hl := HCFL.out T
        have h := HCB.out w2 W (layT T C1) A n c HB2.out hy (by omega)
        rw [show layT (layT T C1) C2 = FIN by rw [HTE.out]; exact HFIN.out] at h
        exact h
      clear HTE HN HCF HCB HLAY HSTP HIX HFIN HCFL hTl
      generalize layT T C1 = T1 at *
      go_wp2_with (go_at_call 38; first
        | ((with_reducible refine (HC1.out _ HY.out).mono ?_); rintro e w5 ⟨A5, c5, rfl, hy5, _⟩; have HY5 := Lib.hid hy5; obtain ⟨x0, x1, x2, x3, x4⟩ := HBX.out _ hy5.below; clear hy5)
        | ((with_reducible refine (HC2.out _ _ _ _ HY5.out).mono ?_); rintro e w6 ⟨A6, c6, rfl, hy6, _⟩; have HY6 := Lib.hid hy6; have hcv := conv_own hy6.own rfl; clear hy6))
      go_ret
      exact ⟨rfl, bel0 HB2.out HY6.out.below⟩

end Go.Proofs.YtlolbfbkoimjkaaDoor
