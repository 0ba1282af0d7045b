/- The document's put: a point comes in where its place is. -/
import Derived.Test.YtnkdbpbfapdfeaaDk
import Derived.StillTailTactics
import Derived.BigQuiet
namespace Go.Proofs.Ytnkdbpbfapdfeaa
open Go.RowKit

theorem sz_alloc (w : World) (o : Obj) : w.heap.size < (w.alloc o).heap.size := by simp
def QPost (w : World) (M : Nat) (most next : Int) (L' : List Tr) (w' : World) : Prop :=
  ∃ v', QM w' M v' most next L' ∧ KB (fun i => i = M) w w'
set_option maxRecDepth 100000 in
set_option maxHeartbeats 8000000 in
theorem rput_any {w : World} {M : Nat} {v : Value} {most next : Int} {L : List Tr} (h : QM w M v most next L) (p : Tr) (hl : L.length ≤ 1000000) :
    Calls Try.prog 33 #[.pointer (some ⟨M, 0, none⟩), .agg #[.int .i64 p.1, .int .i64 p.2.1, .int .i64 p.2.2]] w fun e w' => e = .returned (.tuple #[]) ∧ QPost w M most next (insL p L) w' := by
  obtain ⟨r, hr, hins, hlo, hhi⟩ := insL_at p L
  obtain ⟨A, c, rfl, hcap, hform, hrow⟩ := h.row
  obtain ⟨i0, hi0, hz0, hz1, hz2⟩ := info_parts infoPoint
  have HM := Lib.hid h
  have HR := Lib.hid hrow
  have HLO := Lib.hid hlo
  have HHI := Lib.hid hhi
  have HFO := Lib.hid hform
  have hMl := h.lt
  have HFIN : Hid (∀ (m : Nat), m = L.length - r → ∀ (w5 w6 : World) (v5 v6 : Value), Below (w.alloc (.cells #[.int .i64 p.1, .int .i64 p.2.1, .int .i64 p.2.2] 61)).heap.size (w.alloc (.cells #[.int .i64 p.1, .int .i64 p.2.1, .int .i64 p.2.2] 61)) w5 → w5.ownsRow (w.alloc (.cells #[.int .i64 p.1, .int .i64 p.2.1, .int .i64 p.2.2] 61)).heap.size 61 3 v5 (r + 1) (rowsV encT (L.take r) ++ rowsV encT [p]) → w6.ownsRow (w.alloc (.cells #[.int .i64 p.1, .int .i64 p.2.1, .int .i64 p.2.2] 61)).heap.size 61 3 v6 (r + 1 + m) (rowsV encT (L.take r) ++ rowsV encT [p] ++ rowsV encT (L.drop r)) → w5.grownBy w6 v5.ownBlock → (w6.cell? ⟨M, 2, none⟩ = some (.slice A L.length c) ∧ w6.frozen? ⟨M, 2, none⟩ = false) ∧ M < w6.heap.size ∧ QPost w M most next (insL p L) (w6.setCell ⟨M, 2, none⟩ v6)) := Lib.hid fun m hmr w5 w6 v5 v6 hb5 ho5 ho6 hg => by
    have hb6 := own_below ho5 hb5 hb5.size hg
    have hbw : Below w.heap.size w w6 := bel0 (belA (Below.refl _ _) _) hb6
    rw [← rowsV_app, ← rowsV_app, List.append_assoc, show [p] ++ L.drop r = p :: L.drop r from rfl, ← hins] at ho6
    obtain ⟨h1, h2, h3⟩ := h.own hbw ho6 (by rw [insL_len]; omega)
    exact ⟨h1, Nat.lt_of_lt_of_le hMl hbw.size, _, h2, h3⟩
  clear h hrow hlo hhi hins hform
  have HALL : Hid (∀ W, Below (w.alloc (.cells #[.int .i64 p.1, .int .i64 p.2.1, .int .i64 p.2.2] 61)).heap.size (w.alloc (.cells #[.int .i64 p.1, .int .i64 p.2.1, .int .i64 p.2.2] 61)) W → (W.cell? ⟨w.heap.size, 0, none⟩ = some (.int .i64 p.1) ∧ W.cell? ⟨w.heap.size, 1, none⟩ = some (.int .i64 p.2.1) ∧ W.cell? ⟨w.heap.size, 2, none⟩ = some (.int .i64 p.2.2) ∧ w.heap.size < W.heap.size) ∧ (W.cell? ⟨M, 2, none⟩ = some (.slice A L.length c) ∧ M < W.heap.size) ∧ Below w.heap.size w W) := Lib.hid fun W hb => by
    have g := keep hb (heap_alloc_new w _)
    have hbw : Below w.heap.size w W := bel0 (belA (Below.refl _ _) _) hb
    exact ⟨⟨cell_of_row _ _ 0 _ _ _ g, cell_of_row _ _ 1 _ _ _ g, cell_of_row _ _ 2 _ _ _ g, (Array.getElem?_eq_some_iff.1 g).1⟩, ⟨(HM.out.past hbw).cells.1.2.2, Nat.lt_of_lt_of_le hMl hbw.size⟩, hbw⟩
  have hws : (w.alloc (.cells #[.int .i64 p.1, .int .i64 p.2.1, .int .i64 p.2.2] 61)).heap.size = w.heap.size + 1 := by simp
  go_enter Try.func33, Try.ntmps33
  go_wp2
  have HB0 : Hid (Below (w.alloc (.cells #[.int .i64 p.1, .int .i64 p.2.1, .int .i64 p.2.2] 61)).heap.size (w.alloc (.cells #[.int .i64 p.1, .int .i64 p.2.1, .int .i64 p.2.2] 61)) (w.alloc (.cells #[.int .i64 p.1, .int .i64 p.2.1, .int .i64 p.2.2] 61))) := Lib.hid (Below.refl _ _)
  generalize hwa : (w.alloc (.cells #[.int .i64 p.1, .int .i64 p.2.1, .int .i64 p.2.2] 61)) = wa at *
  clear hwa
  go_loopw [4, 5] (fun v q wr => ∃ (k : Nat) (vo : Value), vo = v ∧ q = .int .i64 k ∧ k ≤ r ∧ Hid (wr.ownsRow wa.heap.size 61 3 vo k (rowsV encT (L.take k))) ∧ Hid (Below wa.heap.size wa wr)) (fun _ q _ => L.length - (intOf q).toNat)
  case atStart => exact ⟨0, _, rfl, rfl, Nat.zero_le _, Lib.hid (World.ownsRow_nil _ _ _ _), HB0⟩
  case round =>
    obtain ⟨k, vo, rfl, rfl, hk, HO, HB⟩ := hrel
    obtain ⟨⟨b0, b1, b2, bl⟩, ⟨m2, hMr⟩, hbw⟩ := HALL.out _ HB.out
    obtain ⟨Ao, co, rfl, hco⟩ := own_formK HO.out
    by_cases hkl : k < L.length
    · have hkli : (k : Int) < L.length := by omega
      have hd : decide ((k : Int) < L.length) = true := decide_eq_true hkli
      obtain ⟨b, off, rfl, hG⟩ := HR.out.cell (fun e => by rw [e] at hkl; simp at hkl)
      obtain rfl : off = 0 := by
        rcases HFO.out with ⟨e, _⟩ | ⟨g, e⟩
        · cases e
        · injection e with e
          injection e with _ e _
      obtain ⟨G0, GA⟩ := hG _ hbw
      obtain ⟨z0, z1, z2⟩ := GA k hkl
      rw [Nat.zero_add] at z0 z1 z2
      by_cases hkr : k = r
      · subst hkr
        have hq := HHI.out hkl
        have HL := Lib.hid (fun W => refLess_as p.1 p.2.1 (Tz L k).1 (Tz L k).2.1 _ hq W)
        have HNEW : Hid (∀ (W : World), Below w.heap.size w W → ∀ ad, (some ⟨b, k * 3, none⟩ : Option Addr) = some ad → ∀ j u, (rowsV encT (L.drop k))[j]? = some u → W.cell? (ad.add j) = some u) := Lib.hid fun W hW ad hA j u hj => by
          injection hA with hA
          subst hA
          refine RK.news (enc := encT) (K := 3) encT_len (by decide) (fun i x hx t u' hu => ?_) j u hj
          have hx2 : L[k + i]? = some x := by rw [List.getElem?_drop] at hx; exact hx
          have hil : k + i < L.length := (List.getElem?_eq_some_iff.1 hx2).1
          obtain ⟨q0, q1, q2⟩ := (hG W hW).2 (k + i) hil
          have hz : Tz L (k + i) = x := by unfold Tz; rw [hx2]; rfl
          rw [hz, Nat.zero_add] at q0 q1 q2
          rw [show k * 3 + i * 3 = (k + i) * 3 by omega]
          match t, hu with
          | 0, hu => cases hu; exact q0
          | 1, hu => cases hu; exact q1
          | 2, hu => cases hu; exact q2
        have HNIL : Hid ((some ⟨b, k * 3, none⟩ : Option Addr) = none → L.length - k = 0 ∧ c - k = 0) := Lib.hid fun e => by cases e
        have hkc : k < c := by omega
        have hkle : (k : Int) ≤ L.length := by omega
        clear hq hG GA HLO HHI
        generalize Tz L k = x at *
        go_wp2_with fail
        go_still_tail 18, (by kernel_rfl)
        change wpList _ _ _ _ _ wr.drew
        have HD := Lib.hid (bel0 HB.out (Below.refl wr.heap.size wr).drew)
        have HOD := Lib.hid (own_pastK HO.out (Below.refl wr.heap.size wr).drew)
        clear z0 z1 z2 b0 b1 b2 bl m2 hMr hbw G0 HO HB
        generalize wr.drew = wt at *
        go_wp2_with (first
          | (go_at_call 19; (with_reducible refine (HL.out _).mono ?_); rintro e w1 ⟨rfl, hb⟩; have HB1 := Lib.hid (bel0 HD.out hb); have HO1 := Lib.hid (own_pastK HOD.out hb); obtain ⟨⟨b0, b1, b2, bl⟩, ⟨m2, hMr⟩, hbw⟩ := HALL.out _ HB1.out; have HSZ := Nat.le_trans HB1.out.size (Nat.le_of_lt (sz_alloc w1 (.cells #[.int .i64 p.1, .int .i64 p.2.1, .int .i64 p.2.2] 61))); clear hb)
          | (at_builtin; (refine wpList_append_own _ rfl _ _ 36 rfl wa.heap.size 61 i0 _ 3 24 Try.underlying36 hi0 hz0 hz1 hz2 rfl (by decide) (.slice Ao  k co) k (rowsV encT (L.take k)) rfl (HO1.out.alloc _) ⟨w1.heap.size, 0, none⟩ 1 1 (rowsV encT [p]) rfl rfl (newsT w1 p _) (rowsV_one encT encT_one _) (by unfold maxLen; omega) (by omega) HSZ ?_); intro v5 w5 hown5 hgrow5 _; have HO5 := Lib.hid hown5; have HB5 := Lib.hid (own_below (HO1.out.alloc _) (HB1.out.alloc HB1.out.size _) (by have := HB1.out.size; simp; omega) hgrow5); obtain ⟨⟨y0, y1, y2, yl⟩, ⟨ym, yM⟩, hbw5⟩ := HALL.out _ HB5.out; have HBW5 := Lib.hid hbw5; clear hown5 hgrow5 hbw5)
          | (at_builtin; (refine wpList_append_lot _ rfl _ _ 36 rfl wa.heap.size 61 i0 _ 3 24 Try.underlying36 hi0 hz0 hz1 hz2 rfl (by decide) _ (k + 1) _ rfl HO5.out _ (L.length - k) _ (rowsV encT (L.drop k)) rfl HNIL.out (by rw [rowsV_len encT 3 encT_len, List.length_drop]) (HNEW.out _ HBW5.out) (rowsV_one encT encT_one _) (by unfold maxLen; omega) (by omega) HB5.out.size ?_); intro v6 w6 hown6 hgrow6; obtain ⟨A6, c6, rfl, _⟩ := own_formK hown6; obtain ⟨⟨e0, ef⟩, eM, hq6⟩ := HFIN.out _ (by omega) _ _ _ _ HB5.out HO5.out hown6 hgrow6; have HQ6 := Lib.hid hq6; clear hown6 hgrow6 hq6))
        go_end0
        exact ⟨rfl, HQ6.out⟩
      · have hkr' : k < r := by omega
        have hq := HLO.out k hkr'
        have HL := Lib.hid (fun W => refLess_as p.1 p.2.1 (Tz L k).1 (Tz L k).2.1 _ hq W)
        have HTK := Lib.hid (takeT_one L k hkl)
        have HNX : Hid (∀ W, Below wa.heap.size wa W → W.cell? ⟨b, k * 3, none⟩ = some (.int .i64 (Tz L k).1) ∧ W.cell? ⟨b, k * 3 + 1, none⟩ = some (.int .i64 (Tz L k).2.1) ∧ W.cell? ⟨b, k * 3 + 2, none⟩ = some (.int .i64 (Tz L k).2.2) ∧ b < W.heap.size) := Lib.hid fun W hW => by
          obtain ⟨q0, q1⟩ := hG W (HALL.out _ hW).2.2
          obtain ⟨t0, t1, t2⟩ := q1 k hkl
          rw [Nat.zero_add] at t0 t1 t2
          exact ⟨t0, t1, t2, q0⟩
        clear hq hG GA
        generalize Tz L k = x at *
        go_wp2_with fail
        go_still_tail 18, (by kernel_rfl)
        change wpList _ _ _ _ _ wr.drew
        have HD := Lib.hid (bel0 HB.out (Below.refl wr.heap.size wr).drew)
        have HOD := Lib.hid (own_pastK HO.out (Below.refl wr.heap.size wr).drew)
        clear z0 z1 z2 b0 b1 b2 bl m2 hMr hbw G0 HO HB
        generalize wr.drew = wt at *
        go_wp2_with (first
          | (go_at_call 19; (with_reducible refine (HL.out _).mono ?_); rintro e w1 ⟨rfl, hb⟩; have HB1 := Lib.hid (bel0 HD.out hb); have HO1 := Lib.hid (own_pastK HOD.out hb); obtain ⟨⟨b0, b1, b2, bl⟩, ⟨m2, hMr⟩, hbw⟩ := HALL.out _ HB1.out; obtain ⟨z0, z1, z2, zl⟩ := HNX.out _ HB1.out; have HSZ := Nat.le_trans HB1.out.size (Nat.le_of_lt (sz_alloc w1 (.cells #[.int .i64 x.1, .int .i64 x.2.1, .int .i64 x.2.2] 61))); clear hb)
          | (at_builtin; (refine wpList_append_own _ rfl _ _ 36 rfl wa.heap.size 61 i0 _ 3 24 Try.underlying36 hi0 hz0 hz1 hz2 rfl (by decide) (.slice Ao k co) k (rowsV encT (L.take k)) rfl (HO1.out.alloc _) ⟨w1.heap.size, 0, none⟩ 1 1 (rowsV encT [x]) rfl rfl (newsT w1 x _) (rowsV_one encT encT_one _) (by unfold maxLen; omega) (by omega) HSZ ?_); intro v5 w5 hown5 hgrow5 _; have HO5 := Lib.hid hown5; have HB5 := Lib.hid (own_below (HO1.out.alloc _) (HB1.out.alloc HB1.out.size _) (by have := HB1.out.size; simp; omega) hgrow5); clear hown5 hgrow5))
        go_roundw
        case rel => exact ⟨k + 1, _, rfl, by go_num, hkr', Lib.hid (by rw [HTK.out, rowsV_app]; exact HO5.out), HB5⟩
        case measure => simp [intOf]; omega
    · obtain rfl : k = r := by omega
      obtain rfl : k = L.length := by omega
      have hnl : ¬ (L.length : Int) < L.length := by omega
      have hnd : decide ((L.length : Int) < L.length) = false := decide_eq_false hnl
      clear HLO HHI
      rcases HFO.out with ⟨rfl, rfl⟩ | ⟨g, rfl⟩
      · obtain rfl : L = [] := List.eq_nil_of_length_eq_zero (by omega)
        have HNEW : Hid (∀ (W : World), Below w.heap.size w W → ∀ ad, ((none : Option Addr)) = some ad → ∀ j u, (rowsV encT (([] : List Tr).drop ([] : List Tr).length))[j]? = some u → W.cell? (ad.add j) = some u) := Lib.hid fun W _ ad _ j u hj => by
          rw [List.drop_length] at hj
          simp [rowsV] at hj
        go_wp2_with fail
        go_quiet (fail)
        have HB1 := Lib.hid (bel0 HB.out (belN' wr nq))
        have HO1 := Lib.hid (own_pastK HO.out (belN' wr nq))
        clear b0 b1 b2 bl m2 hMr hbw HO HB
        generalize wr.drewN nq = w1 at *
        obtain ⟨⟨b0, b1, b2, bl⟩, ⟨m2, hMr⟩, hbw⟩ := HALL.out _ HB1.out
        have HSZ := Nat.le_trans HB1.out.size (Nat.le_of_lt (sz_alloc w1 (.cells #[.int .i64 p.1, .int .i64 p.2.1, .int .i64 p.2.2] 61)))
        go_wp2_with (first
          | (at_builtin; (refine wpList_append_own _ rfl _ _ 36 rfl wa.heap.size 61 i0 _ 3 24 Try.underlying36 hi0 hz0 hz1 hz2 rfl (by decide) (.slice Ao ([] : List Tr).length co) ([] : List Tr).length (rowsV encT (([] : List Tr).take ([] : List Tr).length)) rfl (HO1.out.alloc _) ⟨w1.heap.size, 0, none⟩ 1 1 (rowsV encT [p]) rfl rfl (newsT w1 p _) (rowsV_one encT encT_one _) (by unfold maxLen; omega) (by omega) HSZ ?_); intro v5 w5 hown5 hgrow5 _; have HO5 := Lib.hid hown5; have HB5 := Lib.hid (own_below (HO1.out.alloc _) (HB1.out.alloc HB1.out.size _) (by have := HB1.out.size; simp; omega) hgrow5); obtain ⟨⟨y0, y1, y2, yl⟩, ⟨ym, yM⟩, hbw5⟩ := HALL.out _ HB5.out; have HBW5 := Lib.hid hbw5; clear hown5 hgrow5 hbw5)
          | (at_builtin; (refine wpList_append_lot _ rfl _ _ 36 rfl wa.heap.size 61 i0 _ 3 24 Try.underlying36 hi0 hz0 hz1 hz2 rfl (by decide) _ (([] : List Tr).length + 1) _ rfl HO5.out _ 0 _ (rowsV encT (([] : List Tr).drop ([] : List Tr).length)) rfl (fun _ => ⟨rfl, rfl⟩) (by rw [rowsV_len encT 3 encT_len, List.length_drop, Nat.sub_self]) (HNEW.out _ HBW5.out) (rowsV_one encT encT_one _) (by unfold maxLen; omega) (by omega) HB5.out.size ?_); intro v6 w6 hown6 hgrow6; obtain ⟨A6, c6, rfl, _⟩ := own_formK hown6; obtain ⟨⟨e0, ef⟩, eM, hq6⟩ := HFIN.out _ (by omega) _ _ _ _ HB5.out HO5.out hown6 hgrow6; have HQ6 := Lib.hid hq6; clear hown6 hgrow6 hq6))
        go_end0
        exact ⟨rfl, HQ6.out⟩
      · by_cases hlc : L.length < c
        · skip
          have HNEW : Hid (∀ (W : World), Below w.heap.size w W → ∀ ad, (some (⟨g, L.length * 3, none⟩ : Addr)) = some ad → ∀ j u, (rowsV encT (L.drop L.length))[j]? = some u → W.cell? (ad.add j) = some u) := Lib.hid fun W _ ad _ j u hj => by
            rw [List.drop_length] at hj
            simp [rowsV] at hj
          go_wp2_with fail
          go_quiet (fail)
          have HB1 := Lib.hid (bel0 HB.out (belN' wr nq))
          have HO1 := Lib.hid (own_pastK HO.out (belN' wr nq))
          clear b0 b1 b2 bl m2 hMr hbw HO HB
          generalize wr.drewN nq = w1 at *
          obtain ⟨⟨b0, b1, b2, bl⟩, ⟨m2, hMr⟩, hbw⟩ := HALL.out _ HB1.out
          have HSZ := Nat.le_trans HB1.out.size (Nat.le_of_lt (sz_alloc w1 (.cells #[.int .i64 p.1, .int .i64 p.2.1, .int .i64 p.2.2] 61)))
          go_wp2_with (first
            | (at_builtin; (refine wpList_append_own _ rfl _ _ 36 rfl wa.heap.size 61 i0 _ 3 24 Try.underlying36 hi0 hz0 hz1 hz2 rfl (by decide) (.slice Ao L.length co) L.length (rowsV encT (L.take L.length)) rfl (HO1.out.alloc _) ⟨w1.heap.size, 0, none⟩ 1 1 (rowsV encT [p]) rfl rfl (newsT w1 p _) (rowsV_one encT encT_one _) (by unfold maxLen; omega) (by omega) HSZ ?_); intro v5 w5 hown5 hgrow5 _; have HO5 := Lib.hid hown5; have HB5 := Lib.hid (own_below (HO1.out.alloc _) (HB1.out.alloc HB1.out.size _) (by have := HB1.out.size; simp; omega) hgrow5); obtain ⟨⟨y0, y1, y2, yl⟩, ⟨ym, yM⟩, hbw5⟩ := HALL.out _ HB5.out; have HBW5 := Lib.hid hbw5; clear hown5 hgrow5 hbw5)
            | (at_builtin; (refine wpList_append_lot _ rfl _ _ 36 rfl wa.heap.size 61 i0 _ 3 24 Try.underlying36 hi0 hz0 hz1 hz2 rfl (by decide) _ (L.length + 1) _ rfl HO5.out _ 0 _ (rowsV encT (L.drop L.length)) rfl (fun e => by cases e) (by rw [rowsV_len encT 3 encT_len, List.length_drop, Nat.sub_self]) (HNEW.out _ HBW5.out) (rowsV_one encT encT_one _) (by unfold maxLen; omega) (by omega) HB5.out.size ?_); intro v6 w6 hown6 hgrow6; obtain ⟨A6, c6, rfl, _⟩ := own_formK hown6; obtain ⟨⟨e0, ef⟩, eM, hq6⟩ := HFIN.out _ (by omega) _ _ _ _ HB5.out HO5.out hown6 hgrow6; have HQ6 := Lib.hid hq6; clear hown6 hgrow6 hq6))
          go_end0
          exact ⟨rfl, HQ6.out⟩
        · have hlc2 : c = L.length := by omega
          subst hlc2
          have HNEW : Hid (∀ (W : World), Below w.heap.size w W → ∀ ad, (some (⟨g, 0, none⟩ : Addr)) = some ad → ∀ j u, (rowsV encT (L.drop L.length))[j]? = some u → W.cell? (ad.add j) = some u) := Lib.hid fun W _ ad _ j u hj => by
            rw [List.drop_length] at hj
            simp [rowsV] at hj
          go_wp2_with fail
          go_quiet (fail)
          have HB1 := Lib.hid (bel0 HB.out (belN' wr nq))
          have HO1 := Lib.hid (own_pastK HO.out (belN' wr nq))
          clear b0 b1 b2 bl m2 hMr hbw HO HB
          generalize wr.drewN nq = w1 at *
          obtain ⟨⟨b0, b1, b2, bl⟩, ⟨m2, hMr⟩, hbw⟩ := HALL.out _ HB1.out
          have HSZ := Nat.le_trans HB1.out.size (Nat.le_of_lt (sz_alloc w1 (.cells #[.int .i64 p.1, .int .i64 p.2.1, .int .i64 p.2.2] 61)))
          go_wp2_with (first
            | (at_builtin; (refine wpList_append_own _ rfl _ _ 36 rfl wa.heap.size 61 i0 _ 3 24 Try.underlying36 hi0 hz0 hz1 hz2 rfl (by decide) (.slice Ao L.length co) L.length (rowsV encT (L.take L.length)) rfl (HO1.out.alloc _) ⟨w1.heap.size, 0, none⟩ 1 1 (rowsV encT [p]) rfl rfl (newsT w1 p _) (rowsV_one encT encT_one _) (by unfold maxLen; omega) (by omega) HSZ ?_); intro v5 w5 hown5 hgrow5 _; have HO5 := Lib.hid hown5; have HB5 := Lib.hid (own_below (HO1.out.alloc _) (HB1.out.alloc HB1.out.size _) (by have := HB1.out.size; simp; omega) hgrow5); obtain ⟨⟨y0, y1, y2, yl⟩, ⟨ym, yM⟩, hbw5⟩ := HALL.out _ HB5.out; have HBW5 := Lib.hid hbw5; clear hown5 hgrow5 hbw5)
            | (at_builtin; (refine wpList_append_lot _ rfl _ _ 36 rfl wa.heap.size 61 i0 _ 3 24 Try.underlying36 hi0 hz0 hz1 hz2 rfl (by decide) _ (L.length + 1) _ rfl HO5.out _ 0 _ (rowsV encT (L.drop L.length)) rfl (fun e => by cases e) (by rw [rowsV_len encT 3 encT_len, List.length_drop, Nat.sub_self]) (HNEW.out _ HBW5.out) (rowsV_one encT encT_one _) (by unfold maxLen; omega) (by omega) HB5.out.size ?_); intro v6 w6 hown6 hgrow6; obtain ⟨A6, c6, rfl, _⟩ := own_formK hown6; obtain ⟨⟨e0, ef⟩, eM, hq6⟩ := HFIN.out _ (by omega) _ _ _ _ HB5.out HO5.out hown6 hgrow6; have HQ6 := Lib.hid hq6; clear hown6 hgrow6 hq6))
          go_end0
          exact ⟨rfl, HQ6.out⟩
end Go.Proofs.Ytnkdbpbfapdfeaa
