/- The document's Shift. -/
import Derived.Test.YtnkdbpbfapdfeaaDm
import Derived.Deep.RegionHeld3
import Derived.Test.YtnkdbpbfapdfeaaSw
namespace Go.Proofs.Ytnkdbpbfapdfeaa
open Go.RowKit

theorem seg_end {P : Program} {ops : Array Oper} {md : Region.Mode} {w : World} {Q : Exit → Act → World → Prop} {a : Act} {listed : Array Bool} (h0 : Region.ready md ops listed = []) (h : Q .normal a w) : wpAny P md ops Q 0 listed a w := ⟨h0, h⟩
/-- Does a point's row go? -/
def goes (k a n : Int) (x : Tr) : Bool := okS k a n && decide (k = 2) && num x.1 && decide (x.1 < n)
def mvT (k a n : Int) (x : Tr) : Tr := ((moveZ x.1 x.2.1 k a n).1, (moveZ x.1 x.2.1 k a n).2, x.2.2)
def stepS (k a n : Int) (acc : List Tr) (x : Tr) : List Tr := if goes k a n x = true then acc else insL (mvT k a n x) acc
def shiftR (k a n : Int) (L : List Tr) : List Tr := L.foldl (stepS k a n) []
theorem shiftR_skip (k a n : Int) (L : List Tr) (i : Nat) (h : i < L.length) (hg : goes k a n (Tz L i) = true) : shiftR k a n (L.take (i + 1)) = shiftR k a n (L.take i) := by
  unfold shiftR
  rw [takeT_one L i h, List.foldl_append]
  show stepS k a n _ _ = _
  unfold stepS
  rw [if_pos hg]
theorem shiftR_stay (k a n : Int) (L : List Tr) (i : Nat) (h : i < L.length) (hg : goes k a n (Tz L i) = false) : shiftR k a n (L.take (i + 1)) = insL (mvT k a n (Tz L i)) (shiftR k a n (L.take i)) := by
  unfold shiftR
  rw [takeT_one L i h, List.foldl_append]
  show stepS k a n _ _ = _
  unfold stepS
  rw [if_neg (by rw [hg]; simp)]
theorem shiftR_len (k a n : Int) (L : List Tr) : (shiftR k a n L).length ≤ L.length := by
  have : ∀ (L acc : List Tr), (L.foldl (stepS k a n) acc).length ≤ acc.length + L.length := by
    intro L
    induction L with
    | nil => intro acc; simp
    | cons x L ih =>
      intro acc
      have h1 := ih (stepS k a n acc x)
      have h2 : (stepS k a n acc x).length ≤ acc.length + 1 := by
        unfold stepS
        split
        · omega
        · rw [insL_len]; omega
      simp only [List.foldl_cons, List.length_cons]
      omega
  have h := this L []
  have e : shiftR k a n L = L.foldl (stepS k a n) [] := rfl
  rw [e]
  simpa using h
set_option maxRecDepth 100000 in
set_option maxHeartbeats 16000000 in
theorem rshift_any {w : World} {M : Nat} {v : Value} {most next : Int} {L : List Tr} (h : QM w M v most next L) (k a n : Int) (hl : L.length ≤ 1000) :
    Calls Try.prog 26 #[.pointer (some ⟨M, 0, none⟩), .agg #[.int .i64 k, .int .i64 a, .int .i64 n]] w fun e w' => e = .returned (.tuple #[]) ∧ QPost w M most next (shiftR k a n L) w' := by
  obtain ⟨A, c, rfl, hcap, hform, hrow⟩ := h.row
  obtain ⟨⟨m0, m1, m2⟩, mf⟩ := h.cells
  have hMl := h.lt
  have HWA : Hid (QM ((w.setCell ⟨M, 2, none⟩ (.slice none 0 0)).alloc (.cells #[.int .i64 k, .int .i64 a, .int .i64 n] 32)) M (.slice none 0 0) most next [] ∧ TR ((w.setCell ⟨M, 2, none⟩ (.slice none 0 0)).alloc (.cells #[.int .i64 k, .int .i64 a, .int .i64 n] 32)) A L ∧ KB (fun i => i = M) w ((w.setCell ⟨M, 2, none⟩ (.slice none 0 0)).alloc (.cells #[.int .i64 k, .int .i64 a, .int .i64 n] 32)) ∧ ((w.setCell ⟨M, 2, none⟩ (.slice none 0 0)).alloc (.cells #[.int .i64 k, .int .i64 a, .int .i64 n] 32)).heap[w.heap.size]? = some (.cells #[.int .i64 k, .int .i64 a, .int .i64 n] 32 (0, 0)) ∧ w.heap.size ≠ M) := Lib.hid (by
    have hb : Below (w.setCell ⟨M, 2, none⟩ (.slice none 0 0)).heap.size (w.setCell ⟨M, 2, none⟩ (.slice none 0 0)) ((w.setCell ⟨M, 2, none⟩ (.slice none 0 0)).alloc (.cells #[.int .i64 k, .int .i64 a, .int .i64 n] 32)) := belA (Below.refl _ _) _
    have h1 := (h.renew (Below.refl _ _) (L1 := []) (A := none) (c := 0) (Nat.le_refl _) (.inl ⟨rfl, rfl⟩) (fun e => absurd rfl e)).2
    refine ⟨h1.1.past hb, (hrow.kept (KB.set (S := fun i => i = M) 2 _ rfl) h.np).past hb, h1.2.trans (KB.of_below (S := fun _ => False) hb) fun _ _ e => e.elim, ?_, by omega⟩
    have g := heap_alloc_new (w.setCell ⟨M, 2, none⟩ (.slice none 0 0)) (.cells #[.int .i64 k, .int .i64 a, .int .i64 n] 32)
    rwa [World.size_setCell] at g)
  clear h hrow
  go_enter Try.func26, Try.ntmps26
  go_wp2
  have HM2 := Lib.hid HWA.out.1
  have HTR := Lib.hid HWA.out.2.1
  have HK2 := Lib.hid HWA.out.2.2.1
  have HQ2 := Lib.hid HWA.out.2.2.2.1
  have hQM := HWA.out.2.2.2.2
  clear HWA m0 m1 m2 mf
  generalize ((w.setCell ⟨M, 2, none⟩ (.slice none 0 0)).alloc (.cells #[.int .i64 k, .int .i64 a, .int .i64 n] 32)) = w2 at *
  generalize w.heap.size = Q at *
  go_loopw [5] (fun q wr => ∃ i : Nat, q = .int .i64 i ∧ i ≤ L.length ∧ Hid (∃ v', QM wr M v' most next (shiftR k a n (L.take i))) ∧ Hid (KB (fun i => i = M) w2 wr)) (fun q _ => L.length - (intOf q).toNat)
  case atStart => exact ⟨0, rfl, Nat.zero_le _, Lib.hid ⟨_, HM2.out⟩, Lib.hid (KB.refl _ _)⟩
  case round =>
    obtain ⟨i, rfl, hi, HO, HKB⟩ := hrel
    by_cases hlt : i < L.length
    · have hki : (i : Int) < L.length := by omega
      obtain ⟨v', hq'⟩ := HO.out
      have HQR := Lib.hid hq'
      have hTRr := HTR.out.kept HKB.out HM2.out.np
      have hne : L ≠ [] := fun e => by rw [e] at hlt; simp at hlt
      obtain ⟨b, off, rfl, hG⟩ := hTRr.cell hne
      have hbM : b ≠ M := by
        obtain ⟨b', off', cur, e, hh, _⟩ := hTRr hne
        injection e with e
        injection e with e1 _ _
        subst e1
        exact HQR.out.np b cur hh
      clear hne
      obtain ⟨G0, GA⟩ := hG _ (Below.refl _ _)
      obtain ⟨z0, z1, z2⟩ := GA i hlt
      have hbx : wr.heap[Q]? = _ := (HKB.out.block Q (Array.getElem?_eq_some_iff.1 HQ2.out).1 hQM).trans HQ2.out
      have hQl := (Array.getElem?_eq_some_iff.1 hbx).1
      have x0 := cell_of_row _ _ 0 _ _ _ hbx
      have x1 := cell_of_row _ _ 1 _ _ _ hbx
      have x2 := cell_of_row _ _ 2 _ _ _ hbx
      have HBX := Lib.hid hbx
      have HGG : Hid (∀ W, Below wr.heap.size wr W → (W.cell? ⟨b, off + i * 3, none⟩ = some (.int .i64 (Tz L i).1) ∧ W.cell? ⟨b, off + i * 3 + 1, none⟩ = some (.int .i64 (Tz L i).2.1) ∧ W.cell? ⟨b, off + i * 3 + 2, none⟩ = some (.int .i64 (Tz L i).2.2) ∧ b < W.heap.size) ∧ (W.cell? ⟨Q, 0, none⟩ = some (.int .i64 k) ∧ W.cell? ⟨Q, 1, none⟩ = some (.int .i64 a) ∧ W.cell? ⟨Q, 2, none⟩ = some (.int .i64 n) ∧ Q < W.heap.size)) := Lib.hid fun W hW => by
        obtain ⟨q0, q1⟩ := hG W hW
        obtain ⟨t0, t1, t2⟩ := q1 i hlt
        have g := keep hW HBX.out
        exact ⟨⟨t0, t1, t2, q0⟩, cell_of_row _ _ 0 _ _ _ g, cell_of_row _ _ 1 _ _ _ g, cell_of_row _ _ 2 _ _ _ g, (Array.getElem?_eq_some_iff.1 g).1⟩
      have hla := Nat.le_trans (shiftR_len k a n (L.take i)) (List.length_take_le i L)
      have HPUT : Hid (∀ W, Below wr.heap.size wr W → Calls Try.prog 33 #[.pointer (some ⟨M, 0, none⟩), .agg #[.int .i64 (mvT k a n (Tz L i)).1, .int .i64 (mvT k a n (Tz L i)).2.1, .int .i64 (mvT k a n (Tz L i)).2.2]] W fun e w' => e = .returned (.tuple #[]) ∧ QPost W M most next (insL (mvT k a n (Tz L i)) (shiftR k a n (L.take i))) w') := Lib.hid fun W hW => rput_any (HQR.out.past hW) _ (by omega)
      have HMV : Hid (∀ W, Calls Try.prog 44 #[.agg #[.int .i64 (Tz L i).1, .int .i64 (Tz L i).2.1], .agg #[.int .i64 k, .int .i64 a, .int .i64 n]] W fun e w' => e = .returned (.agg #[.int .i64 (mvT k a n (Tz L i)).1, .int .i64 (mvT k a n (Tz L i)).2.1]) ∧ Below W.heap.size W w') := Lib.hid fun W => refMove_any _ _ _ _ _ W
      have hmage : (mvT k a n (Tz L i)).2.2 = (Tz L i).2.2 := rfl
      rw [hmage] at HPUT
      have HSK := Lib.hid (shiftR_skip k a n L i hlt)
      have HST := Lib.hid (shiftR_stay k a n L i hlt)
      clear hq' hTRr hG GA hbx hmage HO hla
      cases hs : okS k a n with
      | false =>
        have HSH := Lib.hid (fun W => (refShift_as k a n _ hs W).mono fun _ _ ⟨h1, h2⟩ => (⟨h1, h2 ▸ belA (Below.refl _ _) _⟩ : _ ∧ Below W.heap.size W _))
        have HN := Lib.hid (HST.out (by unfold goes; rw [hs]; rfl))
        clear hs HSK HST
        generalize mvT k a n (Tz L i) = y at *
        generalize Tz L i = x at *
        go_wp2_with fail
        refine seg_start (by kernel_rfl) ?_
        refine seg_quiet 0 1 26 rfl (by kernel_rfl) (by kernel_rfl) (by kernel_rfl) (by kernel_rfl) (by kernel_rfl) (by kernel_rfl) ?_
        simp only [List.take_succ_cons, List.take_zero, List.drop_zero]
        ((with_reducible refine wpStill_step (fun K hK => ?_)); go_simp; (with_reducible refine hK _ ?_); clear hK K)
        with_reducible refine wpStill_nil ?_
        refine seg_one 1 25 rfl (by kernel_rfl) (fun K hK => ?_)
        go_simp
        (with_reducible refine (HSH.out _).mono ?_)
        rintro e1 w1 ⟨rfl, hb1⟩
        have HB1 := Lib.hid (bel0 (Below.refl wr.heap.size wr).drew hb1)
        have HQ1 := Lib.hid (HQR.out.past HB1.out)
        obtain ⟨⟨z0, z1, z2, zl⟩, ⟨x0, x1, x2, xl⟩⟩ := HGG.out _ HB1.out
        (with_reducible refine hK.out _ _ ?_)
        clear hK K hb1
        refine seg_quiet 2 24 1 rfl (by kernel_rfl) (by kernel_rfl) (by kernel_rfl) (by kernel_rfl) (by kernel_rfl) (by kernel_rfl) ?_
        simp only [List.take_succ_cons, List.take_zero, List.drop_succ_cons, List.drop_zero]
        ((with_reducible refine wpStill_step (fun K hK => ?_)); go_simp; (with_reducible refine hK _ ?_); clear hK K)
        ((with_reducible refine wpStill_step (fun K hK => ?_)); go_simp; (with_reducible refine hK _ ?_); clear hK K)
        ((with_reducible refine wpStill_step (fun K hK => ?_)); go_simp; (with_reducible refine hK _ ?_); clear hK K)
        ((with_reducible refine wpStill_step (fun K hK => ?_)); go_simp; (with_reducible refine hK _ ?_); clear hK K)
        ((with_reducible refine wpStill_step (fun K hK => ?_)); go_simp; (with_reducible refine hK _ ?_); clear hK K)
        ((with_reducible refine wpStill_step (fun K hK => ?_)); go_simp; (with_reducible refine hK _ ?_); clear hK K)
        ((with_reducible refine wpStill_step (fun K hK => ?_)); go_simp; (with_reducible refine hK _ ?_); clear hK K)
        ((with_reducible refine wpStill_step (fun K hK => ?_)); go_simp; (with_reducible refine hK _ ?_); clear hK K)
        ((with_reducible refine wpStill_step (fun K hK => ?_)); go_simp; (with_reducible refine hK _ ?_); clear hK K)
        ((with_reducible refine wpStill_step (fun K hK => ?_)); go_simp; (with_reducible refine hK _ ?_); clear hK K)
        ((with_reducible refine wpStill_step (fun K hK => ?_)); go_simp; (with_reducible refine hK _ ?_); clear hK K)
        ((with_reducible refine wpStill_step (fun K hK => ?_)); go_simp; (with_reducible refine hK _ ?_); clear hK K)
        ((with_reducible refine wpStill_step (fun K hK => ?_)); go_simp; (with_reducible refine hK _ ?_); clear hK K)
        ((with_reducible refine wpStill_step (fun K hK => ?_)); go_simp; (with_reducible refine hK _ ?_); clear hK K)
        ((with_reducible refine wpStill_step (fun K hK => ?_)); go_simp; (with_reducible refine hK _ ?_); clear hK K)
        ((with_reducible refine wpStill_step (fun K hK => ?_)); go_simp; (with_reducible refine hK _ ?_); clear hK K)
        ((with_reducible refine wpStill_step (fun K hK => ?_)); go_simp; (with_reducible refine hK _ ?_); clear hK K)
        ((with_reducible refine wpStill_step (fun K hK => ?_)); go_simp; (with_reducible refine hK _ ?_); clear hK K)
        ((with_reducible refine wpStill_step (fun K hK => ?_)); go_simp; (with_reducible refine hK _ ?_); clear hK K)
        ((with_reducible refine wpStill_step (fun K hK => ?_)); go_simp; (with_reducible refine hK _ ?_); clear hK K)
        ((with_reducible refine wpStill_step (fun K hK => ?_)); go_simp; (with_reducible refine hK _ ?_); clear hK K)
        ((with_reducible refine wpStill_step (fun K hK => ?_)); go_simp; (with_reducible refine hK _ ?_); clear hK K)
        ((with_reducible refine wpStill_step (fun K hK => ?_)); go_simp; (with_reducible refine hK _ ?_); clear hK K)
        ((with_reducible refine wpStill_step (fun K hK => ?_)); go_simp; (with_reducible refine hK _ ?_); clear hK K)
        with_reducible refine wpStill_nil ?_
        refine seg_one 26 0 rfl (by kernel_rfl) (fun K hK => ?_)
        go_simp
        (with_reducible refine hK.out _ _ ?_)
        clear hK K
        refine seg_end (by kernel_rfl) ?_
        have HS7 : Hid (∀ W, Below w1.heap.size w1 W → (W.cell? ⟨b, off + i * 3, none⟩ = some (.int .i64 x.1) ∧ W.cell? ⟨b, off + i * 3 + 1, none⟩ = some (.int .i64 x.2.1) ∧ W.cell? ⟨b, off + i * 3 + 2, none⟩ = some (.int .i64 x.2.2) ∧ W.cell? ⟨Q, 0, none⟩ = some (.int .i64 k) ∧ W.cell? ⟨Q, 1, none⟩ = some (.int .i64 a) ∧ W.cell? ⟨Q, 2, none⟩ = some (.int .i64 n)) ∧ (b < W.heap.size ∧ Q < W.heap.size)) := Lib.hid fun W hW => (by
          obtain ⟨⟨t0, t1, t2, tl⟩, ⟨y0, y1, y2, yl⟩⟩ := HGG.out _ (bel0 HB1.out hW)
          exact ⟨⟨t0, t1, t2, y0, y1, y2⟩, ⟨tl, yl⟩⟩)
        have HS8 : Hid (∀ w7 W, Below w1.heap.size w1 w7 → (∃ v, QM W M v most next (insL y (shiftR k a n (L.take i))) ∧ KB (fun i => i = M) w7 W) → (W.cell? ⟨b, off + i * 3, none⟩ = some (.int .i64 x.1) ∧ W.cell? ⟨b, off + i * 3 + 1, none⟩ = some (.int .i64 x.2.1) ∧ W.cell? ⟨b, off + i * 3 + 2, none⟩ = some (.int .i64 x.2.2) ∧ W.cell? ⟨Q, 0, none⟩ = some (.int .i64 k) ∧ W.cell? ⟨Q, 1, none⟩ = some (.int .i64 a) ∧ W.cell? ⟨Q, 2, none⟩ = some (.int .i64 n)) ∧ (b < W.heap.size ∧ Q < W.heap.size)) := Lib.hid fun w7 W h7 hW => (by
          obtain ⟨v8, _, hk⟩ := hW
          obtain ⟨⟨t0, t1, t2, y0, y1, y2⟩, ⟨tl, yl⟩⟩ := HS7.out _ h7
          have eb : ∀ o, W.cell? ⟨b, o, none⟩ = w7.cell? ⟨b, o, none⟩ := fun o => World.cell?_of_block (a := ⟨b, o, none⟩) (hk.block b tl hbM)
          have eq : ∀ o, W.cell? ⟨Q, o, none⟩ = w7.cell? ⟨Q, o, none⟩ := fun o => World.cell?_of_block (a := ⟨Q, o, none⟩) (hk.block Q yl hQM)
          exact ⟨⟨(eb _).trans t0, (eb _).trans t1, (eb _).trans t2, (eq _).trans y0, (eq _).trans y1, (eq _).trans y2⟩, ⟨Nat.lt_of_lt_of_le tl hk.size, Nat.lt_of_lt_of_le yl hk.size⟩⟩)
        have HSd := HS7.out _ (Below.refl w1.heap.size w1).drew
        clear z0 z1 z2 x0 x1 x2
        go_wp2_with fail
        go_region_held3 (fun W => (W.cell? ⟨b, off + i * 3, none⟩ = some (.int .i64 x.1) ∧ W.cell? ⟨b, off + i * 3 + 1, none⟩ = some (.int .i64 x.2.1) ∧ W.cell? ⟨b, off + i * 3 + 2, none⟩ = some (.int .i64 x.2.2) ∧ W.cell? ⟨Q, 0, none⟩ = some (.int .i64 k) ∧ W.cell? ⟨Q, 1, none⟩ = some (.int .i64 a) ∧ W.cell? ⟨Q, 2, none⟩ = some (.int .i64 n)) ∧ (b < W.heap.size ∧ Q < W.heap.size))
          (first | exact HSd | assumption | exact HS7.out _ HB7.out | exact HS8.out _ _ HB7.out HQ8.out)
          (first
            | (go_at_call 44; (with_reducible refine (HMV.out _).mono ?_); rintro e7 w7 ⟨rfl, hb7⟩; have HB7 : Hid (Below w1.heap.size w1 w7) := Lib.hid (bel0 (Below.refl w1.heap.size w1).drew hb7); clear hb7)
            | (go_at_call 33; (with_reducible refine (HPUT.out _ (bel0 HB1.out HB7.out)).mono ?_); rintro e8 w8 ⟨rfl, hq8⟩; have HQ8 := Lib.hid hq8; clear hq8))
        all_goals
          go_wp2
          go_roundw
          case rel => exact ⟨i + 1, by go_num, hlt, Lib.hid (by rw [HN.out]; obtain ⟨v8, h8, _⟩ := HQ8.out; exact ⟨v8, h8⟩), Lib.hid (by obtain ⟨v8, _, h8⟩ := HQ8.out; exact (HKB.out.trans (KB.of_below (S := fun _ => False) (bel0 HB1.out HB7.out)) fun _ _ e => e.elim).trans h8 fun _ _ e => e)⟩
          case measure => simp [intOf]; omega
      | true =>
        by_cases hk2 : k = 2
        · have hkb : (k == 2) = true := (by simpa using hk2)
          cases hn1 : num (Tz L i).1 with
          | false =>
            have HSH := Lib.hid (fun W => (refShift_as k a n _ hs W).mono fun _ _ ⟨h1, h2⟩ => (⟨h1, h2 ▸ belA (Below.refl _ _) _⟩ : _ ∧ Below W.heap.size W _))
            have HRI := Lib.hid (fun W => (refRight_as (Tz L i).1 _ hn1 W).mono fun _ _ ⟨h1, h2⟩ => And.intro h1 h2.symm)
            have HN := Lib.hid (HST.out (by unfold goes; rw [hn1, Bool.and_false, Bool.false_and]))
            clear hk2 hn1
            clear hs HSK HST
            generalize mvT k a n (Tz L i) = y at *
            generalize Tz L i = x at *
            go_wp2_with fail
            refine seg_start (by kernel_rfl) ?_
            refine seg_quiet 0 1 26 rfl (by kernel_rfl) (by kernel_rfl) (by kernel_rfl) (by kernel_rfl) (by kernel_rfl) (by kernel_rfl) ?_
            simp only [List.take_succ_cons, List.take_zero, List.drop_zero]
            ((with_reducible refine wpStill_step (fun K hK => ?_)); go_simp; (with_reducible refine hK _ ?_); clear hK K)
            with_reducible refine wpStill_nil ?_
            refine seg_one 1 25 rfl (by kernel_rfl) (fun K hK => ?_)
            go_simp
            (with_reducible refine (HSH.out _).mono ?_)
            rintro e1 w1 ⟨rfl, hb1⟩
            have HB1 := Lib.hid (bel0 (Below.refl wr.heap.size wr).drew hb1)
            have HQ1 := Lib.hid (HQR.out.past HB1.out)
            obtain ⟨⟨z0, z1, z2, zl⟩, ⟨x0, x1, x2, xl⟩⟩ := HGG.out _ HB1.out
            (with_reducible refine hK.out _ _ ?_)
            clear hK K hb1
            refine seg_quiet 2 24 1 rfl (by kernel_rfl) (by kernel_rfl) (by kernel_rfl) (by kernel_rfl) (by kernel_rfl) (by kernel_rfl) ?_
            simp only [List.take_succ_cons, List.take_zero, List.drop_succ_cons, List.drop_zero]
            ((with_reducible refine wpStill_step (fun K hK => ?_)); go_simp; (with_reducible refine hK _ ?_); clear hK K)
            ((with_reducible refine wpStill_step (fun K hK => ?_)); go_simp; (with_reducible refine hK _ ?_); clear hK K)
            ((with_reducible refine wpStill_step (fun K hK => ?_)); go_simp; (with_reducible refine hK _ ?_); clear hK K)
            ((with_reducible refine wpStill_step (fun K hK => ?_)); go_simp; (with_reducible refine hK _ ?_); clear hK K)
            ((with_reducible refine wpStill_step (fun K hK => ?_)); go_simp; (with_reducible refine hK _ ?_); clear hK K)
            ((with_reducible refine wpStill_step (fun K hK => ?_)); go_simp; (with_reducible refine hK _ ?_); clear hK K)
            ((with_reducible refine wpStill_step (fun K hK => ?_)); go_simp; (with_reducible refine hK _ ?_); clear hK K)
            ((with_reducible refine wpStill_step (fun K hK => ?_)); go_simp; (with_reducible refine hK _ ?_); clear hK K)
            ((with_reducible refine wpStill_step (fun K hK => ?_)); go_simp; (with_reducible refine hK _ ?_); clear hK K)
            ((with_reducible refine wpStill_step (fun K hK => ?_)); go_simp; (with_reducible refine hK _ ?_); clear hK K)
            ((with_reducible refine wpStill_step (fun K hK => ?_)); go_simp; (with_reducible refine hK _ ?_); clear hK K)
            ((with_reducible refine wpStill_step (fun K hK => ?_)); go_simp; (with_reducible refine hK _ ?_); clear hK K)
            still_call (HRI.out _)
            ((with_reducible refine wpStill_step (fun K hK => ?_)); go_simp; (with_reducible refine hK _ ?_); clear hK K)
            ((with_reducible refine wpStill_step (fun K hK => ?_)); go_simp; (with_reducible refine hK _ ?_); clear hK K)
            ((with_reducible refine wpStill_step (fun K hK => ?_)); go_simp; (with_reducible refine hK _ ?_); clear hK K)
            ((with_reducible refine wpStill_step (fun K hK => ?_)); go_simp; (with_reducible refine hK _ ?_); clear hK K)
            ((with_reducible refine wpStill_step (fun K hK => ?_)); go_simp; (with_reducible refine hK _ ?_); clear hK K)
            ((with_reducible refine wpStill_step (fun K hK => ?_)); go_simp; (with_reducible refine hK _ ?_); clear hK K)
            ((with_reducible refine wpStill_step (fun K hK => ?_)); go_simp; (with_reducible refine hK _ ?_); clear hK K)
            ((with_reducible refine wpStill_step (fun K hK => ?_)); go_simp; (with_reducible refine hK _ ?_); clear hK K)
            ((with_reducible refine wpStill_step (fun K hK => ?_)); go_simp; (with_reducible refine hK _ ?_); clear hK K)
            ((with_reducible refine wpStill_step (fun K hK => ?_)); go_simp; (with_reducible refine hK _ ?_); clear hK K)
            ((with_reducible refine wpStill_step (fun K hK => ?_)); go_simp; (with_reducible refine hK _ ?_); clear hK K)
            with_reducible refine wpStill_nil ?_
            refine seg_one 26 0 rfl (by kernel_rfl) (fun K hK => ?_)
            go_simp
            (with_reducible refine hK.out _ _ ?_)
            clear hK K
            refine seg_end (by kernel_rfl) ?_
            have HS7 : Hid (∀ W, Below w1.heap.size w1 W → (W.cell? ⟨b, off + i * 3, none⟩ = some (.int .i64 x.1) ∧ W.cell? ⟨b, off + i * 3 + 1, none⟩ = some (.int .i64 x.2.1) ∧ W.cell? ⟨b, off + i * 3 + 2, none⟩ = some (.int .i64 x.2.2) ∧ W.cell? ⟨Q, 0, none⟩ = some (.int .i64 k) ∧ W.cell? ⟨Q, 1, none⟩ = some (.int .i64 a) ∧ W.cell? ⟨Q, 2, none⟩ = some (.int .i64 n)) ∧ (b < W.heap.size ∧ Q < W.heap.size)) := Lib.hid fun W hW => (by
              obtain ⟨⟨t0, t1, t2, tl⟩, ⟨y0, y1, y2, yl⟩⟩ := HGG.out _ (bel0 HB1.out hW)
              exact ⟨⟨t0, t1, t2, y0, y1, y2⟩, ⟨tl, yl⟩⟩)
            have HS8 : Hid (∀ w7 W, Below w1.heap.size w1 w7 → (∃ v, QM W M v most next (insL y (shiftR k a n (L.take i))) ∧ KB (fun i => i = M) w7 W) → (W.cell? ⟨b, off + i * 3, none⟩ = some (.int .i64 x.1) ∧ W.cell? ⟨b, off + i * 3 + 1, none⟩ = some (.int .i64 x.2.1) ∧ W.cell? ⟨b, off + i * 3 + 2, none⟩ = some (.int .i64 x.2.2) ∧ W.cell? ⟨Q, 0, none⟩ = some (.int .i64 k) ∧ W.cell? ⟨Q, 1, none⟩ = some (.int .i64 a) ∧ W.cell? ⟨Q, 2, none⟩ = some (.int .i64 n)) ∧ (b < W.heap.size ∧ Q < W.heap.size)) := Lib.hid fun w7 W h7 hW => (by
              obtain ⟨v8, _, hk⟩ := hW
              obtain ⟨⟨t0, t1, t2, y0, y1, y2⟩, ⟨tl, yl⟩⟩ := HS7.out _ h7
              have eb : ∀ o, W.cell? ⟨b, o, none⟩ = w7.cell? ⟨b, o, none⟩ := fun o => World.cell?_of_block (a := ⟨b, o, none⟩) (hk.block b tl hbM)
              have eq : ∀ o, W.cell? ⟨Q, o, none⟩ = w7.cell? ⟨Q, o, none⟩ := fun o => World.cell?_of_block (a := ⟨Q, o, none⟩) (hk.block Q yl hQM)
              exact ⟨⟨(eb _).trans t0, (eb _).trans t1, (eb _).trans t2, (eq _).trans y0, (eq _).trans y1, (eq _).trans y2⟩, ⟨Nat.lt_of_lt_of_le tl hk.size, Nat.lt_of_lt_of_le yl hk.size⟩⟩)
            have HSd := HS7.out _ (Below.refl w1.heap.size w1).drew
            clear z0 z1 z2 x0 x1 x2
            go_wp2_with fail
            go_region_held3 (fun W => (W.cell? ⟨b, off + i * 3, none⟩ = some (.int .i64 x.1) ∧ W.cell? ⟨b, off + i * 3 + 1, none⟩ = some (.int .i64 x.2.1) ∧ W.cell? ⟨b, off + i * 3 + 2, none⟩ = some (.int .i64 x.2.2) ∧ W.cell? ⟨Q, 0, none⟩ = some (.int .i64 k) ∧ W.cell? ⟨Q, 1, none⟩ = some (.int .i64 a) ∧ W.cell? ⟨Q, 2, none⟩ = some (.int .i64 n)) ∧ (b < W.heap.size ∧ Q < W.heap.size))
              (first | exact HSd | assumption | exact HS7.out _ HB7.out | exact HS8.out _ _ HB7.out HQ8.out)
              (first
                | (go_at_call 44; (with_reducible refine (HMV.out _).mono ?_); rintro e7 w7 ⟨rfl, hb7⟩; have HB7 : Hid (Below w1.heap.size w1 w7) := Lib.hid (bel0 (Below.refl w1.heap.size w1).drew hb7); clear hb7)
                | (go_at_call 33; (with_reducible refine (HPUT.out _ (bel0 HB1.out HB7.out)).mono ?_); rintro e8 w8 ⟨rfl, hq8⟩; have HQ8 := Lib.hid hq8; clear hq8))
            all_goals
              go_wp2
              go_roundw
              case rel => exact ⟨i + 1, by go_num, hlt, Lib.hid (by rw [HN.out]; obtain ⟨v8, h8, _⟩ := HQ8.out; exact ⟨v8, h8⟩), Lib.hid (by obtain ⟨v8, _, h8⟩ := HQ8.out; exact (HKB.out.trans (KB.of_below (S := fun _ => False) (bel0 HB1.out HB7.out)) fun _ _ e => e.elim).trans h8 fun _ _ e => e)⟩
              case measure => simp [intOf]; omega
          | true =>
            by_cases hln : (Tz L i).1 < n
            · have hdl : decide ((Tz L i).1 < n) = true := decide_eq_true hln
              have HSH := Lib.hid (fun W => (refShift_as k a n _ hs W).mono fun _ _ ⟨h1, h2⟩ => (⟨h1, h2 ▸ belA (Below.refl _ _) _⟩ : _ ∧ Below W.heap.size W _))
              have HRI := Lib.hid (fun W => (refRight_as (Tz L i).1 _ hn1 W).mono fun _ _ ⟨h1, h2⟩ => And.intro h1 h2.symm)
              have HN := Lib.hid (HSK.out (by unfold goes; rw [hs, hn1, hdl, decide_eq_true hk2]; rfl))
              clear hk2 hn1 hln
              clear hs HSK HST
              generalize mvT k a n (Tz L i) = y at *
              generalize Tz L i = x at *
              go_wp2_with fail
              refine seg_start (by kernel_rfl) ?_
              refine seg_quiet 0 1 26 rfl (by kernel_rfl) (by kernel_rfl) (by kernel_rfl) (by kernel_rfl) (by kernel_rfl) (by kernel_rfl) ?_
              simp only [List.take_succ_cons, List.take_zero, List.drop_zero]
              ((with_reducible refine wpStill_step (fun K hK => ?_)); go_simp; (with_reducible refine hK _ ?_); clear hK K)
              with_reducible refine wpStill_nil ?_
              refine seg_one 1 25 rfl (by kernel_rfl) (fun K hK => ?_)
              go_simp
              (with_reducible refine (HSH.out _).mono ?_)
              rintro e1 w1 ⟨rfl, hb1⟩
              have HB1 := Lib.hid (bel0 (Below.refl wr.heap.size wr).drew hb1)
              have HQ1 := Lib.hid (HQR.out.past HB1.out)
              obtain ⟨⟨z0, z1, z2, zl⟩, ⟨x0, x1, x2, xl⟩⟩ := HGG.out _ HB1.out
              (with_reducible refine hK.out _ _ ?_)
              clear hK K hb1
              refine seg_quiet 2 24 1 rfl (by kernel_rfl) (by kernel_rfl) (by kernel_rfl) (by kernel_rfl) (by kernel_rfl) (by kernel_rfl) ?_
              simp only [List.take_succ_cons, List.take_zero, List.drop_succ_cons, List.drop_zero]
              ((with_reducible refine wpStill_step (fun K hK => ?_)); go_simp; (with_reducible refine hK _ ?_); clear hK K)
              ((with_reducible refine wpStill_step (fun K hK => ?_)); go_simp; (with_reducible refine hK _ ?_); clear hK K)
              ((with_reducible refine wpStill_step (fun K hK => ?_)); go_simp; (with_reducible refine hK _ ?_); clear hK K)
              ((with_reducible refine wpStill_step (fun K hK => ?_)); go_simp; (with_reducible refine hK _ ?_); clear hK K)
              ((with_reducible refine wpStill_step (fun K hK => ?_)); go_simp; (with_reducible refine hK _ ?_); clear hK K)
              ((with_reducible refine wpStill_step (fun K hK => ?_)); go_simp; (with_reducible refine hK _ ?_); clear hK K)
              ((with_reducible refine wpStill_step (fun K hK => ?_)); go_simp; (with_reducible refine hK _ ?_); clear hK K)
              ((with_reducible refine wpStill_step (fun K hK => ?_)); go_simp; (with_reducible refine hK _ ?_); clear hK K)
              ((with_reducible refine wpStill_step (fun K hK => ?_)); go_simp; (with_reducible refine hK _ ?_); clear hK K)
              ((with_reducible refine wpStill_step (fun K hK => ?_)); go_simp; (with_reducible refine hK _ ?_); clear hK K)
              ((with_reducible refine wpStill_step (fun K hK => ?_)); go_simp; (with_reducible refine hK _ ?_); clear hK K)
              ((with_reducible refine wpStill_step (fun K hK => ?_)); go_simp; (with_reducible refine hK _ ?_); clear hK K)
              still_call (HRI.out _)
              ((with_reducible refine wpStill_step (fun K hK => ?_)); go_simp; (with_reducible refine hK _ ?_); clear hK K)
              ((with_reducible refine wpStill_step (fun K hK => ?_)); go_simp; (with_reducible refine hK _ ?_); clear hK K)
              ((with_reducible refine wpStill_step (fun K hK => ?_)); go_simp; (with_reducible refine hK _ ?_); clear hK K)
              ((with_reducible refine wpStill_step (fun K hK => ?_)); go_simp; (with_reducible refine hK _ ?_); clear hK K)
              ((with_reducible refine wpStill_step (fun K hK => ?_)); go_simp; (with_reducible refine hK _ ?_); clear hK K)
              ((with_reducible refine wpStill_step (fun K hK => ?_)); go_simp; (with_reducible refine hK _ ?_); clear hK K)
              ((with_reducible refine wpStill_step (fun K hK => ?_)); go_simp; (with_reducible refine hK _ ?_); clear hK K)
              ((with_reducible refine wpStill_step (fun K hK => ?_)); go_simp; (with_reducible refine hK _ ?_); clear hK K)
              ((with_reducible refine wpStill_step (fun K hK => ?_)); go_simp; (with_reducible refine hK _ ?_); clear hK K)
              ((with_reducible refine wpStill_step (fun K hK => ?_)); go_simp; (with_reducible refine hK _ ?_); clear hK K)
              ((with_reducible refine wpStill_step (fun K hK => ?_)); go_simp; (with_reducible refine hK _ ?_); clear hK K)
              with_reducible refine wpStill_nil ?_
              refine seg_one 26 0 rfl (by kernel_rfl) (fun K hK => ?_)
              go_simp
              (with_reducible refine hK.out _ _ ?_)
              clear hK K
              refine seg_end (by kernel_rfl) ?_
              go_wp2
              go_roundw
              case rel => exact ⟨i + 1, by go_num, hlt, Lib.hid (by rw [HN.out]; exact ⟨_, HQ1.out⟩), Lib.hid (HKB.out.trans (KB.of_below (S := fun _ => False) HB1.out) fun _ _ e => e.elim)⟩
              case measure => simp [intOf]; omega
            · have hdl : decide ((Tz L i).1 < n) = false := decide_eq_false hln
              have HSH := Lib.hid (fun W => (refShift_as k a n _ hs W).mono fun _ _ ⟨h1, h2⟩ => (⟨h1, h2 ▸ belA (Below.refl _ _) _⟩ : _ ∧ Below W.heap.size W _))
              have HRI := Lib.hid (fun W => (refRight_as (Tz L i).1 _ hn1 W).mono fun _ _ ⟨h1, h2⟩ => And.intro h1 h2.symm)
              have HN := Lib.hid (HST.out (by unfold goes; rw [hdl, Bool.and_false]))
              clear hk2 hn1 hln
              clear hs HSK HST
              generalize mvT k a n (Tz L i) = y at *
              generalize Tz L i = x at *
              go_wp2_with fail
              refine seg_start (by kernel_rfl) ?_
              refine seg_quiet 0 1 26 rfl (by kernel_rfl) (by kernel_rfl) (by kernel_rfl) (by kernel_rfl) (by kernel_rfl) (by kernel_rfl) ?_
              simp only [List.take_succ_cons, List.take_zero, List.drop_zero]
              ((with_reducible refine wpStill_step (fun K hK => ?_)); go_simp; (with_reducible refine hK _ ?_); clear hK K)
              with_reducible refine wpStill_nil ?_
              refine seg_one 1 25 rfl (by kernel_rfl) (fun K hK => ?_)
              go_simp
              (with_reducible refine (HSH.out _).mono ?_)
              rintro e1 w1 ⟨rfl, hb1⟩
              have HB1 := Lib.hid (bel0 (Below.refl wr.heap.size wr).drew hb1)
              have HQ1 := Lib.hid (HQR.out.past HB1.out)
              obtain ⟨⟨z0, z1, z2, zl⟩, ⟨x0, x1, x2, xl⟩⟩ := HGG.out _ HB1.out
              (with_reducible refine hK.out _ _ ?_)
              clear hK K hb1
              refine seg_quiet 2 24 1 rfl (by kernel_rfl) (by kernel_rfl) (by kernel_rfl) (by kernel_rfl) (by kernel_rfl) (by kernel_rfl) ?_
              simp only [List.take_succ_cons, List.take_zero, List.drop_succ_cons, List.drop_zero]
              ((with_reducible refine wpStill_step (fun K hK => ?_)); go_simp; (with_reducible refine hK _ ?_); clear hK K)
              ((with_reducible refine wpStill_step (fun K hK => ?_)); go_simp; (with_reducible refine hK _ ?_); clear hK K)
              ((with_reducible refine wpStill_step (fun K hK => ?_)); go_simp; (with_reducible refine hK _ ?_); clear hK K)
              ((with_reducible refine wpStill_step (fun K hK => ?_)); go_simp; (with_reducible refine hK _ ?_); clear hK K)
              ((with_reducible refine wpStill_step (fun K hK => ?_)); go_simp; (with_reducible refine hK _ ?_); clear hK K)
              ((with_reducible refine wpStill_step (fun K hK => ?_)); go_simp; (with_reducible refine hK _ ?_); clear hK K)
              ((with_reducible refine wpStill_step (fun K hK => ?_)); go_simp; (with_reducible refine hK _ ?_); clear hK K)
              ((with_reducible refine wpStill_step (fun K hK => ?_)); go_simp; (with_reducible refine hK _ ?_); clear hK K)
              ((with_reducible refine wpStill_step (fun K hK => ?_)); go_simp; (with_reducible refine hK _ ?_); clear hK K)
              ((with_reducible refine wpStill_step (fun K hK => ?_)); go_simp; (with_reducible refine hK _ ?_); clear hK K)
              ((with_reducible refine wpStill_step (fun K hK => ?_)); go_simp; (with_reducible refine hK _ ?_); clear hK K)
              ((with_reducible refine wpStill_step (fun K hK => ?_)); go_simp; (with_reducible refine hK _ ?_); clear hK K)
              still_call (HRI.out _)
              ((with_reducible refine wpStill_step (fun K hK => ?_)); go_simp; (with_reducible refine hK _ ?_); clear hK K)
              ((with_reducible refine wpStill_step (fun K hK => ?_)); go_simp; (with_reducible refine hK _ ?_); clear hK K)
              ((with_reducible refine wpStill_step (fun K hK => ?_)); go_simp; (with_reducible refine hK _ ?_); clear hK K)
              ((with_reducible refine wpStill_step (fun K hK => ?_)); go_simp; (with_reducible refine hK _ ?_); clear hK K)
              ((with_reducible refine wpStill_step (fun K hK => ?_)); go_simp; (with_reducible refine hK _ ?_); clear hK K)
              ((with_reducible refine wpStill_step (fun K hK => ?_)); go_simp; (with_reducible refine hK _ ?_); clear hK K)
              ((with_reducible refine wpStill_step (fun K hK => ?_)); go_simp; (with_reducible refine hK _ ?_); clear hK K)
              ((with_reducible refine wpStill_step (fun K hK => ?_)); go_simp; (with_reducible refine hK _ ?_); clear hK K)
              ((with_reducible refine wpStill_step (fun K hK => ?_)); go_simp; (with_reducible refine hK _ ?_); clear hK K)
              ((with_reducible refine wpStill_step (fun K hK => ?_)); go_simp; (with_reducible refine hK _ ?_); clear hK K)
              ((with_reducible refine wpStill_step (fun K hK => ?_)); go_simp; (with_reducible refine hK _ ?_); clear hK K)
              with_reducible refine wpStill_nil ?_
              refine seg_one 26 0 rfl (by kernel_rfl) (fun K hK => ?_)
              go_simp
              (with_reducible refine hK.out _ _ ?_)
              clear hK K
              refine seg_end (by kernel_rfl) ?_
              have HS7 : Hid (∀ W, Below w1.heap.size w1 W → (W.cell? ⟨b, off + i * 3, none⟩ = some (.int .i64 x.1) ∧ W.cell? ⟨b, off + i * 3 + 1, none⟩ = some (.int .i64 x.2.1) ∧ W.cell? ⟨b, off + i * 3 + 2, none⟩ = some (.int .i64 x.2.2) ∧ W.cell? ⟨Q, 0, none⟩ = some (.int .i64 k) ∧ W.cell? ⟨Q, 1, none⟩ = some (.int .i64 a) ∧ W.cell? ⟨Q, 2, none⟩ = some (.int .i64 n)) ∧ (b < W.heap.size ∧ Q < W.heap.size)) := Lib.hid fun W hW => (by
                obtain ⟨⟨t0, t1, t2, tl⟩, ⟨y0, y1, y2, yl⟩⟩ := HGG.out _ (bel0 HB1.out hW)
                exact ⟨⟨t0, t1, t2, y0, y1, y2⟩, ⟨tl, yl⟩⟩)
              have HS8 : Hid (∀ w7 W, Below w1.heap.size w1 w7 → (∃ v, QM W M v most next (insL y (shiftR k a n (L.take i))) ∧ KB (fun i => i = M) w7 W) → (W.cell? ⟨b, off + i * 3, none⟩ = some (.int .i64 x.1) ∧ W.cell? ⟨b, off + i * 3 + 1, none⟩ = some (.int .i64 x.2.1) ∧ W.cell? ⟨b, off + i * 3 + 2, none⟩ = some (.int .i64 x.2.2) ∧ W.cell? ⟨Q, 0, none⟩ = some (.int .i64 k) ∧ W.cell? ⟨Q, 1, none⟩ = some (.int .i64 a) ∧ W.cell? ⟨Q, 2, none⟩ = some (.int .i64 n)) ∧ (b < W.heap.size ∧ Q < W.heap.size)) := Lib.hid fun w7 W h7 hW => (by
                obtain ⟨v8, _, hk⟩ := hW
                obtain ⟨⟨t0, t1, t2, y0, y1, y2⟩, ⟨tl, yl⟩⟩ := HS7.out _ h7
                have eb : ∀ o, W.cell? ⟨b, o, none⟩ = w7.cell? ⟨b, o, none⟩ := fun o => World.cell?_of_block (a := ⟨b, o, none⟩) (hk.block b tl hbM)
                have eq : ∀ o, W.cell? ⟨Q, o, none⟩ = w7.cell? ⟨Q, o, none⟩ := fun o => World.cell?_of_block (a := ⟨Q, o, none⟩) (hk.block Q yl hQM)
                exact ⟨⟨(eb _).trans t0, (eb _).trans t1, (eb _).trans t2, (eq _).trans y0, (eq _).trans y1, (eq _).trans y2⟩, ⟨Nat.lt_of_lt_of_le tl hk.size, Nat.lt_of_lt_of_le yl hk.size⟩⟩)
              have HSd := HS7.out _ (Below.refl w1.heap.size w1).drew
              clear z0 z1 z2 x0 x1 x2
              go_wp2_with fail
              go_region_held3 (fun W => (W.cell? ⟨b, off + i * 3, none⟩ = some (.int .i64 x.1) ∧ W.cell? ⟨b, off + i * 3 + 1, none⟩ = some (.int .i64 x.2.1) ∧ W.cell? ⟨b, off + i * 3 + 2, none⟩ = some (.int .i64 x.2.2) ∧ W.cell? ⟨Q, 0, none⟩ = some (.int .i64 k) ∧ W.cell? ⟨Q, 1, none⟩ = some (.int .i64 a) ∧ W.cell? ⟨Q, 2, none⟩ = some (.int .i64 n)) ∧ (b < W.heap.size ∧ Q < W.heap.size))
                (first | exact HSd | assumption | exact HS7.out _ HB7.out | exact HS8.out _ _ HB7.out HQ8.out)
                (first
                  | (go_at_call 44; (with_reducible refine (HMV.out _).mono ?_); rintro e7 w7 ⟨rfl, hb7⟩; have HB7 : Hid (Below w1.heap.size w1 w7) := Lib.hid (bel0 (Below.refl w1.heap.size w1).drew hb7); clear hb7)
                  | (go_at_call 33; (with_reducible refine (HPUT.out _ (bel0 HB1.out HB7.out)).mono ?_); rintro e8 w8 ⟨rfl, hq8⟩; have HQ8 := Lib.hid hq8; clear hq8))
              all_goals
                go_wp2
                go_roundw
                case rel => exact ⟨i + 1, by go_num, hlt, Lib.hid (by rw [HN.out]; obtain ⟨v8, h8, _⟩ := HQ8.out; exact ⟨v8, h8⟩), Lib.hid (by obtain ⟨v8, _, h8⟩ := HQ8.out; exact (HKB.out.trans (KB.of_below (S := fun _ => False) (bel0 HB1.out HB7.out)) fun _ _ e => e.elim).trans h8 fun _ _ e => e)⟩
                case measure => simp [intOf]; omega
        · have hkb : (k == 2) = false := (by simpa using hk2)
          have HSH := Lib.hid (fun W => (refShift_as k a n _ hs W).mono fun _ _ ⟨h1, h2⟩ => (⟨h1, h2 ▸ belA (Below.refl _ _) _⟩ : _ ∧ Below W.heap.size W _))
          have HN := Lib.hid (HST.out (by unfold goes; rw [decide_eq_false hk2, Bool.and_false, Bool.false_and, Bool.false_and]))
          clear hk2
          clear hs HSK HST
          generalize mvT k a n (Tz L i) = y at *
          generalize Tz L i = x at *
          go_wp2_with fail
          refine seg_start (by kernel_rfl) ?_
          refine seg_quiet 0 1 26 rfl (by kernel_rfl) (by kernel_rfl) (by kernel_rfl) (by kernel_rfl) (by kernel_rfl) (by kernel_rfl) ?_
          simp only [List.take_succ_cons, List.take_zero, List.drop_zero]
          ((with_reducible refine wpStill_step (fun K hK => ?_)); go_simp; (with_reducible refine hK _ ?_); clear hK K)
          with_reducible refine wpStill_nil ?_
          refine seg_one 1 25 rfl (by kernel_rfl) (fun K hK => ?_)
          go_simp
          (with_reducible refine (HSH.out _).mono ?_)
          rintro e1 w1 ⟨rfl, hb1⟩
          have HB1 := Lib.hid (bel0 (Below.refl wr.heap.size wr).drew hb1)
          have HQ1 := Lib.hid (HQR.out.past HB1.out)
          obtain ⟨⟨z0, z1, z2, zl⟩, ⟨x0, x1, x2, xl⟩⟩ := HGG.out _ HB1.out
          (with_reducible refine hK.out _ _ ?_)
          clear hK K hb1
          refine seg_quiet 2 24 1 rfl (by kernel_rfl) (by kernel_rfl) (by kernel_rfl) (by kernel_rfl) (by kernel_rfl) (by kernel_rfl) ?_
          simp only [List.take_succ_cons, List.take_zero, List.drop_succ_cons, List.drop_zero]
          ((with_reducible refine wpStill_step (fun K hK => ?_)); go_simp; (with_reducible refine hK _ ?_); clear hK K)
          ((with_reducible refine wpStill_step (fun K hK => ?_)); go_simp; (with_reducible refine hK _ ?_); clear hK K)
          ((with_reducible refine wpStill_step (fun K hK => ?_)); go_simp; (with_reducible refine hK _ ?_); clear hK K)
          ((with_reducible refine wpStill_step (fun K hK => ?_)); go_simp; (with_reducible refine hK _ ?_); clear hK K)
          ((with_reducible refine wpStill_step (fun K hK => ?_)); go_simp; (with_reducible refine hK _ ?_); clear hK K)
          ((with_reducible refine wpStill_step (fun K hK => ?_)); go_simp; (with_reducible refine hK _ ?_); clear hK K)
          ((with_reducible refine wpStill_step (fun K hK => ?_)); go_simp; (with_reducible refine hK _ ?_); clear hK K)
          ((with_reducible refine wpStill_step (fun K hK => ?_)); go_simp; (with_reducible refine hK _ ?_); clear hK K)
          ((with_reducible refine wpStill_step (fun K hK => ?_)); go_simp; (with_reducible refine hK _ ?_); clear hK K)
          ((with_reducible refine wpStill_step (fun K hK => ?_)); go_simp; (with_reducible refine hK _ ?_); clear hK K)
          ((with_reducible refine wpStill_step (fun K hK => ?_)); go_simp; (with_reducible refine hK _ ?_); clear hK K)
          ((with_reducible refine wpStill_step (fun K hK => ?_)); go_simp; (with_reducible refine hK _ ?_); clear hK K)
          ((with_reducible refine wpStill_step (fun K hK => ?_)); go_simp; (with_reducible refine hK _ ?_); clear hK K)
          ((with_reducible refine wpStill_step (fun K hK => ?_)); go_simp; (with_reducible refine hK _ ?_); clear hK K)
          ((with_reducible refine wpStill_step (fun K hK => ?_)); go_simp; (with_reducible refine hK _ ?_); clear hK K)
          ((with_reducible refine wpStill_step (fun K hK => ?_)); go_simp; (with_reducible refine hK _ ?_); clear hK K)
          ((with_reducible refine wpStill_step (fun K hK => ?_)); go_simp; (with_reducible refine hK _ ?_); clear hK K)
          ((with_reducible refine wpStill_step (fun K hK => ?_)); go_simp; (with_reducible refine hK _ ?_); clear hK K)
          ((with_reducible refine wpStill_step (fun K hK => ?_)); go_simp; (with_reducible refine hK _ ?_); clear hK K)
          ((with_reducible refine wpStill_step (fun K hK => ?_)); go_simp; (with_reducible refine hK _ ?_); clear hK K)
          ((with_reducible refine wpStill_step (fun K hK => ?_)); go_simp; (with_reducible refine hK _ ?_); clear hK K)
          ((with_reducible refine wpStill_step (fun K hK => ?_)); go_simp; (with_reducible refine hK _ ?_); clear hK K)
          ((with_reducible refine wpStill_step (fun K hK => ?_)); go_simp; (with_reducible refine hK _ ?_); clear hK K)
          ((with_reducible refine wpStill_step (fun K hK => ?_)); go_simp; (with_reducible refine hK _ ?_); clear hK K)
          with_reducible refine wpStill_nil ?_
          refine seg_one 26 0 rfl (by kernel_rfl) (fun K hK => ?_)
          go_simp
          (with_reducible refine hK.out _ _ ?_)
          clear hK K
          refine seg_end (by kernel_rfl) ?_
          have HS7 : Hid (∀ W, Below w1.heap.size w1 W → (W.cell? ⟨b, off + i * 3, none⟩ = some (.int .i64 x.1) ∧ W.cell? ⟨b, off + i * 3 + 1, none⟩ = some (.int .i64 x.2.1) ∧ W.cell? ⟨b, off + i * 3 + 2, none⟩ = some (.int .i64 x.2.2) ∧ W.cell? ⟨Q, 0, none⟩ = some (.int .i64 k) ∧ W.cell? ⟨Q, 1, none⟩ = some (.int .i64 a) ∧ W.cell? ⟨Q, 2, none⟩ = some (.int .i64 n)) ∧ (b < W.heap.size ∧ Q < W.heap.size)) := Lib.hid fun W hW => (by
            obtain ⟨⟨t0, t1, t2, tl⟩, ⟨y0, y1, y2, yl⟩⟩ := HGG.out _ (bel0 HB1.out hW)
            exact ⟨⟨t0, t1, t2, y0, y1, y2⟩, ⟨tl, yl⟩⟩)
          have HS8 : Hid (∀ w7 W, Below w1.heap.size w1 w7 → (∃ v, QM W M v most next (insL y (shiftR k a n (L.take i))) ∧ KB (fun i => i = M) w7 W) → (W.cell? ⟨b, off + i * 3, none⟩ = some (.int .i64 x.1) ∧ W.cell? ⟨b, off + i * 3 + 1, none⟩ = some (.int .i64 x.2.1) ∧ W.cell? ⟨b, off + i * 3 + 2, none⟩ = some (.int .i64 x.2.2) ∧ W.cell? ⟨Q, 0, none⟩ = some (.int .i64 k) ∧ W.cell? ⟨Q, 1, none⟩ = some (.int .i64 a) ∧ W.cell? ⟨Q, 2, none⟩ = some (.int .i64 n)) ∧ (b < W.heap.size ∧ Q < W.heap.size)) := Lib.hid fun w7 W h7 hW => (by
            obtain ⟨v8, _, hk⟩ := hW
            obtain ⟨⟨t0, t1, t2, y0, y1, y2⟩, ⟨tl, yl⟩⟩ := HS7.out _ h7
            have eb : ∀ o, W.cell? ⟨b, o, none⟩ = w7.cell? ⟨b, o, none⟩ := fun o => World.cell?_of_block (a := ⟨b, o, none⟩) (hk.block b tl hbM)
            have eq : ∀ o, W.cell? ⟨Q, o, none⟩ = w7.cell? ⟨Q, o, none⟩ := fun o => World.cell?_of_block (a := ⟨Q, o, none⟩) (hk.block Q yl hQM)
            exact ⟨⟨(eb _).trans t0, (eb _).trans t1, (eb _).trans t2, (eq _).trans y0, (eq _).trans y1, (eq _).trans y2⟩, ⟨Nat.lt_of_lt_of_le tl hk.size, Nat.lt_of_lt_of_le yl hk.size⟩⟩)
          have HSd := HS7.out _ (Below.refl w1.heap.size w1).drew
          clear z0 z1 z2 x0 x1 x2
          go_wp2_with fail
          go_region_held3 (fun W => (W.cell? ⟨b, off + i * 3, none⟩ = some (.int .i64 x.1) ∧ W.cell? ⟨b, off + i * 3 + 1, none⟩ = some (.int .i64 x.2.1) ∧ W.cell? ⟨b, off + i * 3 + 2, none⟩ = some (.int .i64 x.2.2) ∧ W.cell? ⟨Q, 0, none⟩ = some (.int .i64 k) ∧ W.cell? ⟨Q, 1, none⟩ = some (.int .i64 a) ∧ W.cell? ⟨Q, 2, none⟩ = some (.int .i64 n)) ∧ (b < W.heap.size ∧ Q < W.heap.size))
            (first | exact HSd | assumption | exact HS7.out _ HB7.out | exact HS8.out _ _ HB7.out HQ8.out)
            (first
              | (go_at_call 44; (with_reducible refine (HMV.out _).mono ?_); rintro e7 w7 ⟨rfl, hb7⟩; have HB7 : Hid (Below w1.heap.size w1 w7) := Lib.hid (bel0 (Below.refl w1.heap.size w1).drew hb7); clear hb7)
              | (go_at_call 33; (with_reducible refine (HPUT.out _ (bel0 HB1.out HB7.out)).mono ?_); rintro e8 w8 ⟨rfl, hq8⟩; have HQ8 := Lib.hid hq8; clear hq8))
          all_goals
            go_wp2
            go_roundw
            case rel => exact ⟨i + 1, by go_num, hlt, Lib.hid (by rw [HN.out]; obtain ⟨v8, h8, _⟩ := HQ8.out; exact ⟨v8, h8⟩), Lib.hid (by obtain ⟨v8, _, h8⟩ := HQ8.out; exact (HKB.out.trans (KB.of_below (S := fun _ => False) (bel0 HB1.out HB7.out)) fun _ _ e => e.elim).trans h8 fun _ _ e => e)⟩
            case measure => simp [intOf]; omega
    · obtain rfl : i = L.length := by omega
      have hjj : ¬ (L.length : Int) < L.length := by omega
      have HF : Hid (QPost w M most next (shiftR k a n L) wr) := Lib.hid (by
        obtain ⟨v', hq'⟩ := HO.out
        rw [List.take_of_length_le (Nat.le_refl _)] at hq'
        exact ⟨v', hq', HK2.out.trans HKB.out fun _ _ e => e⟩)
      clear HO HKB
      go_wp2
      go_end0
      exact ⟨rfl, HF.out⟩
end Go.Proofs.Ytnkdbpbfapdfeaa
