/- The document's Add: a point comes in, and the one of the least age goes if there are too many. -/
import Derived.Test.YtnkdbpbfapdfeaaDl
namespace Go.Proofs.Ytnkdbpbfapdfeaa
open Go.RowKit

theorem QPost.same {w w' : World} {M : Nat} {v : Value} {most next : Int} {L : List Tr} (h : QM w M v most next L) (hb : Below w.heap.size w w') : QPost w M most next L w' :=
  ⟨v, h.past hb, KB.of_below hb⟩
theorem er_keep (L : List Tr) (e j : Nat) (h : j < L.length) (hne : j ≠ e) : (L.take (j + 1)).eraseIdx e = (L.take j).eraseIdx e ++ [Tz L j] := by
  rw [takeT_one L j h]
  rcases Nat.lt_or_ge e j with hl | hl
  · rw [List.eraseIdx_append_of_lt_length (by simp; omega)]
  · rw [List.eraseIdx_of_length_le (by simp; omega), List.eraseIdx_of_length_le (by simp; omega)]
theorem er_skip (L : List Tr) (e : Nat) (h : e < L.length) : (L.take (e + 1)).eraseIdx e = (L.take e).eraseIdx e := by
  have hl : (L.take e).length = e := by rw [List.length_take]; omega
  rw [takeT_one L e h, List.eraseIdx_append_of_length_le (by omega), hl, Nat.sub_self, List.eraseIdx_of_length_le (l := L.take e) (by omega)]
  show L.take e ++ [] = _
  rw [List.append_nil]
theorem er_len (L : List Tr) (e j : Nat) : ((L.take j).eraseIdx e).length ≤ j := by
  refine Nat.le_trans (List.length_eraseIdx_le _ _) ?_
  simp
  omega
set_option maxRecDepth 100000 in
set_option maxHeartbeats 8000000 in
theorem radd_wrong (w : World) (M : Nat) (r c : Int) (hp : okP r c = false) :
    Calls Try.prog 27 #[.pointer (some ⟨M, 0, none⟩), .agg #[.int .i64 r, .int .i64 c]] w fun e w' => e = .returned (.tuple #[]) ∧ Below w.heap.size w w' := by
  cases h1 : num r with
  | false =>
    have H1 := Lib.hid (refRight_as r _ h1)
    clear h1 hp
    go_enter Try.func27, Try.ntmps27
    go_wp2_with (go_at_call 23; (with_reducible refine (H1.out _).mono ?_); rintro e w' ⟨rfl, rfl⟩)
    (try simp only [Exit.inBlock, Exit.then])
    exact bodyPost_ret (results_none rfl _ _ _) rfl ⟨rfl, belA (Below.refl _ _) _⟩
  | true =>
    have h2 : num c = false := by rw [okP, h1] at hp; exact hp
    have H1 := Lib.hid (refRight_as r _ h1)
    have H2 := Lib.hid (refRight_as c _ h2)
    clear h1 hp h2
    go_enter Try.func27, Try.ntmps27
    go_wp2_with (first
      | (go_at_call 23; (with_reducible refine (H1.out _).mono ?_); rintro e w' ⟨rfl, rfl⟩)
      | (go_at_call 23; (with_reducible refine (H2.out _).mono ?_); rintro e w' ⟨rfl, rfl⟩))
    (try simp only [Exit.inBlock, Exit.then])
    exact bodyPost_ret (results_none rfl _ _ _) rfl ⟨rfl, belA (Below.refl _ _) _⟩
/-- What Add makes of the points. -/
def RAdd (most next : Int) (L : List Tr) (p : Int × Int) (L' : List Tr) : Prop :=
  ((insL (p.1, p.2, next + 1) L).length ≤ most ∧ L' = insL (p.1, p.2, next + 1) L) ∨
  (most < (insL (p.1, p.2, next + 1) L).length ∧ ∃ e, e < (insL (p.1, p.2, next + 1) L).length ∧ (∀ j, j < (insL (p.1, p.2, next + 1) L).length → (Tz (insL (p.1, p.2, next + 1) L) e).2.2 ≤ (Tz (insL (p.1, p.2, next + 1) L) j).2.2) ∧ L' = (insL (p.1, p.2, next + 1) L).eraseIdx e)
set_option maxRecDepth 100000 in
set_option maxHeartbeats 8000000 in
theorem radd_any {w : World} {M : Nat} {v : Value} {most next : Int} {L : List Tr} (h : QM w M v most next L) (r c : Int) (hp : okP r c = true) (hl : L.length ≤ 1000) (hn : 0 ≤ next ∧ next ≤ 1000000) :
    Calls Try.prog 27 #[.pointer (some ⟨M, 0, none⟩), .agg #[.int .i64 r, .int .i64 c]] w fun e w' => e = .returned (.tuple #[]) ∧ ∃ L', RAdd most next L (r, c) L' ∧ QPost w M most (next + 1) L' w' := by
  have h12 : num r = true ∧ num c = true := Bool.and_eq_true_iff.1 hp
  have H1 := Lib.hid (refRight_as r _ h12.1)
  have H2 := Lib.hid (refRight_as c _ h12.2)
  have hw : IntKind.i64.wrap (next + 1) = next + 1 := by rw [IntKind.wrap_i64]; omega
  obtain ⟨⟨m0, m1, m2⟩, mf⟩ := h.cells
  have hMl := h.lt
  have HWA : Hid (QM ((w.setCell ⟨M, 1, none⟩ (.int .i64 (next + 1))).alloc (.cells #[.int .i64 r, .int .i64 c] 30)) M v most (next + 1) L ∧ KB (fun i => i = M) w ((w.setCell ⟨M, 1, none⟩ (.int .i64 (next + 1))).alloc (.cells #[.int .i64 r, .int .i64 c] 30)) ∧ ((w.setCell ⟨M, 1, none⟩ (.int .i64 (next + 1))).alloc (.cells #[.int .i64 r, .int .i64 c] 30)).heap[w.heap.size]? = some (.cells #[.int .i64 r, .int .i64 c] 30 (0, 0))) := Lib.hid (by
    have h1 : QM (w.setCell ⟨M, 1, none⟩ (.int .i64 (next + 1))) M v most (next + 1) L := by
      refine ⟨heap_setCell_same _ M 1 _ _ _ h.d, ?_⟩
      obtain ⟨A, c', e, hc, hf, hr⟩ := h.row
      exact ⟨A, c', e, hc, hf, hr.kept (KB.set (S := fun i => i = M) 1 _ rfl) h.np⟩
    refine ⟨h1.past (belA (Below.refl _ _) _), (KB.set (S := fun i => i = M) 1 _ rfl).trans (KB.of_below (S := fun i => i = M) (belA (Below.refl _ _) _)) fun _ _ e => e, ?_⟩
    have g := heap_alloc_new (w.setCell ⟨M, 1, none⟩ (.int .i64 (next + 1))) (.cells #[.int .i64 r, .int .i64 c] 30)
    rwa [World.size_setCell] at g)
  have hlen := insL_len (r, c, next + 1) L
  have HPUT := Lib.hid (rput_any HWA.out.1 (r, c, next + 1) (by omega))
  have hbx := HWA.out.2.2
  have hb0 := cell_of_row _ _ 0 _ _ _ hbx
  have hbl := (Array.getElem?_eq_some_iff.1 hbx).1
  have hb1 := cell_of_row _ _ 1 _ _ _ hbx
  obtain ⟨⟨n0, n1, n2⟩, nf⟩ := HWA.out.1.cells
  have hMs := HWA.out.1.lt
  clear h hp h12 hbx
  go_enter Try.func27, Try.ntmps27
  go_wp2_with (first
    | (go_at_call 23; (with_reducible refine (H1.out _).mono ?_); rintro e w' ⟨rfl, rfl⟩)
    | (go_at_call 23; (with_reducible refine (H2.out _).mono ?_); rintro e w' ⟨rfl, rfl⟩))
  have HM2 := Lib.hid HWA.out.1
  have HK2 := Lib.hid HWA.out.2.1
  clear HWA n0 n2 nf H1 H2 hw m0 m1 m2 mf
  generalize (w.setCell ⟨M, 1, none⟩ (.int .i64 (next + 1))).alloc (.cells #[.int .i64 r, .int .i64 c] 30) = w2 at *
  have HL1 := Lib.hid (show ∃ L1, insL (r, c, next + 1) L = L1 from ⟨_, rfl⟩)
  go_still_tail 7, (by kernel_rfl)
  change wpList _ _ _ _ _ w2.drew
  have HPUT := Lib.hid (rput_any (HM2.out.past (Below.refl _ _).drew) (r, c, next + 1) (by omega))
  generalize hins : insL (r, c, next + 1) L = L1 at *
  have HINS := Lib.hid hins
  have HK3 : Hid (KB (fun i => i = M) w w2.drew) := Lib.hid (HK2.out.trans (KB.of_below (S := fun _ => False) (Below.refl _ _).drew) fun _ _ e => e.elim)
  clear n1 hb0 hb1 hbl hMs HM2 HK2 hins HL1
  generalize w2.drew = w3 at *
  go_wp2_with (go_at_call 33; (with_reducible refine (HPUT.out).mono ?_); rintro e w4 ⟨rfl, v4, hq4, hk4⟩; have HQ4 := Lib.hid hq4; have HK4 := Lib.hid (HK3.out.trans hk4 fun _ _ e => e); obtain ⟨A4, c4, rfl, hc4, hf4, hr4⟩ := hq4.row; obtain ⟨⟨n0, n1, n2⟩, nf⟩ := hq4.cells; have hMs := hq4.lt; clear hq4 hk4 hf4 hr4)
  have hl1 : L1.length ≤ 1001 := by omega
  have h1p : 0 < L1.length := by omega
  clear hlen
  by_cases hfit : (L1.length : Int) ≤ most
  · have HF : Hid (∀ q, ∃ L', RAdd most next L (r, c) L' ∧ QPost w M most (next + 1) L' (w4.drewN q)) := Lib.hid fun q => by
      refine ⟨L1, .inl ⟨by rw [HINS.out]; exact hfit, HINS.out.symm⟩, _, HQ4.out.past (belN' w4 q), HK4.out.trans (KB.of_below (S := fun _ => False) (belN' w4 q)) fun _ _ e => e.elim⟩
    have hd : decide ((L1.length : Int) ≤ most) = true := decide_eq_true hfit
    clear hfit HQ4 HK4
    go_quiet (fail)
    go_wp2
    (try simp only [Exit.inBlock, Exit.then])
    exact bodyPost_ret (results_none rfl _ _ _) rfl ⟨rfl, HF.out _⟩
  · have hd : decide ((L1.length : Int) ≤ most) = false := decide_eq_false hfit
    have HNF := Lib.hid hfit
    clear hfit
    go_quiet (fail)
    have HQ5 := Lib.hid (HQ4.out.past (belN' w4 nq))
    have HK5 : Hid (KB (fun i => i = M) w (w4.drewN nq)) := Lib.hid (HK4.out.trans (KB.of_below (S := fun _ => False) (belN' w4 nq)) fun _ _ e => e.elim)
    have hM5 : M < (w4.drewN nq).heap.size := hMs
    clear n0 n1 n2 nf hMs HQ4 HK4
    generalize w4.drewN nq = w5 at *
    obtain ⟨⟨n0, n1, n2⟩, nf⟩ := HQ5.out.cells
    have HTR : Hid (TR w5 A4 L1) := Lib.hid (by
      obtain ⟨A', c', e, _, _, hr⟩ := HQ5.out.row
      injection e with e1 _ _
      subst e1
      exact hr)
    go_wp2
    go_loopw [4, 5] (fun u q wr => ∃ e i : Nat, u = .int .i64 e ∧ q = .int .i64 i ∧ e < L1.length ∧ i ≤ L1.length ∧ Hid (∀ j, j < i → (Tz L1 e).2.2 ≤ (Tz L1 j).2.2) ∧ Hid (Below w5.heap.size w5 wr)) (fun _ q _ => L1.length - (intOf q).toNat)
    case atStart => exact ⟨0, 0, rfl, rfl, h1p, Nat.zero_le _, Lib.hid (fun j hj => by omega), Lib.hid (Below.refl _ _)⟩
    case round =>
      obtain ⟨e, i, rfl, rfl, he, hi, HMIN, HB⟩ := hrel
      obtain ⟨⟨q0, q1, q2⟩, qf⟩ := (HQ5.out.past HB.out).cells
      have hMr := (HQ5.out.past HB.out).lt
      by_cases hlt : i < L1.length
      · have hii : (i : Int) < L1.length := by omega
        have hei : (e : Int) < L1.length := by omega
        obtain ⟨b, off, rfl, hG⟩ := HTR.out.cell (fun e => by rw [e] at h1p; simp at h1p)
        obtain ⟨G0, GA⟩ := hG _ HB.out
        obtain ⟨_, _, z2⟩ := GA i hlt
        obtain ⟨_, _, y2⟩ := GA e he
        by_cases hless : (Tz L1 i).2.2 < (Tz L1 e).2.2
        · have HN : Hid (∀ j, j < i + 1 → (Tz L1 i).2.2 ≤ (Tz L1 j).2.2) := Lib.hid fun j hj => by
            rcases (by omega : j < i ∨ j = i) with h | rfl
            · have := HMIN.out j h; omega
            · exact Int.le_refl _
          have hdl : decide ((Tz L1 i).2.2 < (Tz L1 e).2.2) = true := decide_eq_true hless
          clear hG GA HMIN
          generalize hx : (Tz L1 i).2.2 = x at *
          generalize hy : (Tz L1 e).2.2 = y at *
          have HX := Lib.hid hx
          have HY := Lib.hid hy
          clear hx hy
          go_wp2_with fail
          go_quiet (fail)
          have HBN := Lib.hid (bel0 HB.out (belN' wr nq))
          go_wp2
          go_roundw
          case rel => exact ⟨i, i + 1, rfl, by go_num, hlt, hlt, Lib.hid (by rw [HX.out]; exact HN.out), HBN⟩
          case measure => simp [intOf]; omega
        · have HN : Hid (∀ j, j < i + 1 → (Tz L1 e).2.2 ≤ (Tz L1 j).2.2) := Lib.hid fun j hj => by
            rcases (by omega : j < i ∨ j = i) with h | rfl
            · exact HMIN.out j h
            · omega
          have hdl : decide ((Tz L1 i).2.2 < (Tz L1 e).2.2) = false := decide_eq_false hless
          clear hG GA HMIN
          generalize hx : (Tz L1 i).2.2 = x at *
          generalize hy : (Tz L1 e).2.2 = y at *
          have HX := Lib.hid hx
          have HY := Lib.hid hy
          clear hx hy
          go_wp2_with fail
          go_quiet (fail)
          have HBN := Lib.hid (bel0 HB.out (belN' wr nq))
          go_wp2
          go_roundw
          case rel => exact ⟨e, i + 1, rfl, by go_num, he, hlt, Lib.hid (by rw [HY.out]; exact HN.out), HBN⟩
          case measure => simp [intOf]; omega
      · obtain rfl : i = L1.length := by omega
        have hii : ¬ (L1.length : Int) < L1.length := by omega
        have HQ6 := Lib.hid (HQ5.out.past HB.out)
        have HTR6 := Lib.hid (HTR.out.past HB.out)
        have HK6 : Hid (KB (fun i => i = M) w wr) := Lib.hid (HK5.out.trans (KB.of_below (S := fun _ => False) HB.out) fun _ _ e => e.elim)
        obtain ⟨i0, hi0, hz0, hz1, hz2⟩ := info_parts infoPoint
        clear HQ5 HTR HK5 HB n0 n1 n2 nf
        generalize hgen : wr = w6 at *
        clear hgen
        go_wp2
        go_loopw [6, 7] (fun u q wr => ∃ (j : Nat) (vo : Value), vo = u ∧ q = .int .i64 j ∧ j ≤ L1.length ∧ Hid (wr.ownsRow w6.heap.size 61 3 vo ((L1.take j).eraseIdx e).length (rowsV encT ((L1.take j).eraseIdx e))) ∧ Hid (Below w6.heap.size w6 wr)) (fun _ q _ => L1.length - (intOf q).toNat)
        case atStart => exact ⟨0, _, rfl, rfl, Nat.zero_le _, Lib.hid (World.ownsRow_nil _ _ _ _), Lib.hid (Below.refl _ _)⟩
        case round =>
          obtain ⟨j, vo, rfl, rfl, hj, HO, HB⟩ := hrel
          obtain ⟨⟨q0, q1, q2⟩, qf⟩ := (HQ6.out.past HB.out).cells
          have hMr := (HQ6.out.past HB.out).lt
          obtain ⟨Ao, co, rfl, hco⟩ := own_formK HO.out
          by_cases hlt : j < L1.length
          · have hjj : (j : Int) < L1.length := by omega
            obtain ⟨b, off, rfl, hG⟩ := HTR6.out.cell (fun e => by rw [e] at h1p; simp at h1p)
            obtain ⟨G0, GA⟩ := hG _ HB.out
            obtain ⟨z0, z1, z2⟩ := GA j hlt
            by_cases hje : j = e
            · subst hje
              have hb : ((j : Int) != j) = false := by simp
              have HN := Lib.hid (er_skip L1 j hlt)
              clear hG GA
              go_wp2
              go_roundw
              case rel => exact ⟨j + 1, _, rfl, by go_num, hlt, Lib.hid (by rw [HN.out]; exact HO.out), HB⟩
              case measure => simp [intOf]; omega
            · have hb : ((j : Int) != e) = true := by simp only [bne_iff_ne, ne_eq]; omega
              have HN := Lib.hid (er_keep L1 e j hlt hje)
              have hel := er_len L1 e j
              clear hG GA
              have HSZ := Nat.le_trans HB.out.size (Nat.le_of_lt (sz_alloc wr (.cells #[.int .i64 (Tz L1 j).1, .int .i64 (Tz L1 j).2.1, .int .i64 (Tz L1 j).2.2] 61)))
              generalize Tz L1 j = x at *
              generalize hlen2 : ((L1.take j).eraseIdx e).length = m at *
              go_wp2_with (at_builtin; (refine wpList_append_own _ rfl _ _ 36 rfl w6.heap.size 61 i0 _ 3 24 Try.underlying36 hi0 hz0 hz1 hz2 rfl (by decide) (.slice Ao m co) m (rowsV encT ((L1.take j).eraseIdx e)) rfl (HO.out.alloc _) ⟨wr.heap.size, 0, none⟩ 1 1 (rowsV encT [x]) rfl rfl (newsT wr x _) (rowsV_one encT encT_one _) (by unfold maxLen; omega) (by omega) HSZ ?_); intro v5 w5 hown5 hgrow5 _; have HO5 := Lib.hid hown5; have HB5 := Lib.hid (own_below (HO.out.alloc _) (HB.out.alloc HB.out.size _) HSZ hgrow5); clear hown5 hgrow5)
              go_roundw
              case rel => exact ⟨j + 1, _, rfl, by go_num, hlt, Lib.hid (by rw [HN.out, List.length_append, rowsV_app, hlen2]; exact HO5.out), HB5⟩
              case measure => simp [intOf]; omega
          · obtain rfl : j = L1.length := by omega
            have hjj : ¬ (L1.length : Int) < L1.length := by omega
            obtain ⟨⟨e0, ef⟩, hq7, hk7⟩ := HQ6.out.own HB.out HO.out rfl
            have hter : (L1.take L1.length).eraseIdx e = L1.eraseIdx e := by rw [List.take_of_length_le (Nat.le_refl _)]
            have HF : Hid (∃ L', RAdd most next L (r, c) L' ∧ QPost w M most (next + 1) L' (wr.setCell ⟨M, 2, none⟩ (.slice Ao (L1.eraseIdx e).length co))) := Lib.hid (by
              rw [hter] at hq7 hk7
              refine ⟨L1.eraseIdx e, .inr ⟨by rw [HINS.out]; have := HNF.out; omega, e, by rw [HINS.out]; exact he, by rw [HINS.out]; exact HMIN.out, by rw [HINS.out]⟩, _, hq7, HK6.out.trans hk7 fun _ _ e => e⟩)
            clear hq7 hk7 hter HO HB HMIN
            go_wp2
            go_end0
            exact ⟨rfl, HF.out⟩
end Go.Proofs.Ytnkdbpbfapdfeaa
