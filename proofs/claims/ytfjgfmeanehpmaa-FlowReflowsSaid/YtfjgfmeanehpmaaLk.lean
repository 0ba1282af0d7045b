/- The walk of flow.moved. -/
import Derived.Test.YtfjgfmeanehpmaaLj
import Derived.Test.YtfjgfmeanehpmaaHn
namespace Go.Proofs.Ytfjgfmeanehpmaa
open Go.RowKit

theorem made_two (n k : Nat) (hk : k < n * 2) : (madeCells #[.int .i64 0, .int .i64 0] (n * 2))[k]? = some (.int .i64 0) := by
  have hs : ((#[.int .i64 0, .int .i64 0] : Array Value)).size = 2 := rfl
  unfold madeCells
  rw [hs, Array.getElem?_map, Array.getElem?_range, if_pos hk]
  have : k % 2 = 0 ∨ k % 2 = 1 := by omega
  rcases this with h | h <;> simp [h]
/-- Places as far as they are laid. -/
def PZ (W : World) (g : Nat) (f : Nat → Nat × Nat) (n i : Nat) : Prop :=
  g < W.heap.size ∧ (∀ k, W.frozen? ⟨g, k, none⟩ = false) ∧ ∀ k, k < n → W.cell? ⟨g, k * 2, none⟩ = some (.int .i64 ((if k < i then (f k).1 else 0 : Nat) : Int)) ∧ W.cell? ⟨g, k * 2 + 1, none⟩ = some (.int .i64 ((if k < i then (f k).2 else 0 : Nat) : Int))
theorem PZ.past {W W' : World} {g : Nat} {f : Nat → Nat × Nat} {n i : Nat} (h : PZ W g f n i) (hb : Below W.heap.size W W') : PZ W' g f n i :=
  ⟨Nat.lt_of_lt_of_le h.1 hb.size, fun k => (hb.frozen (p := ⟨g, k, none⟩) h.1).trans (h.2.1 k), fun k hk => ⟨(hb.cell (p := ⟨g, k * 2, none⟩) h.1).trans (h.2.2 k hk).1, (hb.cell (p := ⟨g, k * 2 + 1, none⟩) h.1).trans (h.2.2 k hk).2⟩⟩
theorem PZ.made (W : World) (f : Nat → Nat × Nat) (n : Nat) (t : TypeId) : PZ (W.alloc (.cells (madeCells #[.int .i64 0, .int .i64 0] (n * 2)) t)) W.heap.size f n 0 := by
  have h := heap_alloc_new W (.cells (madeCells #[.int .i64 0, .int .i64 0] (n * 2)) t)
  refine ⟨lt_alloc _ _, free_of_row h, fun k hk => ?_⟩
  rw [cell_of_row _ _ (k * 2) _ _ _ h, cell_of_row _ _ (k * 2 + 1) _ _ _ h, made_two n _ (by omega), made_two n _ (by omega)]
  simp
theorem PZ.skip {W : World} {g : Nat} {f : Nat → Nat × Nat} {n i : Nat} (h : PZ W g f n i) (hf : f i = (0, 0)) : PZ W g f n (i + 1) := by
  refine ⟨h.1, h.2.1, fun k hk => ?_⟩
  obtain ⟨h1, h2⟩ := h.2.2 k hk
  by_cases hi : k < i
  · rw [if_pos hi] at h1 h2
    rw [if_pos (by omega), if_pos (by omega)]
    exact ⟨h1, h2⟩
  · rw [if_neg hi] at h1 h2
    by_cases hk2 : k < i + 1
    · obtain rfl : k = i := by omega
      rw [if_pos hk2, if_pos hk2, hf]
      exact ⟨h1, h2⟩
    · rw [if_neg hk2, if_neg hk2]
      exact ⟨h1, h2⟩
theorem PZ.set {W : World} {g : Nat} {f : Nat → Nat × Nat} {n i : Nat} (h : PZ W g f n i) (hin : i < n) (a b : Int) (ha : a = ((f i).1 : Nat)) (hb : b = ((f i).2 : Nat)) : PZ ((W.setCell ⟨g, i * 2, none⟩ (.int .i64 a)).setCell ⟨g, i * 2 + 1, none⟩ (.int .i64 b)) g f n (i + 1) := by
  subst ha; subst hb
  refine ⟨by rw [World.size_setCell, World.size_setCell]; exact h.1, fun k => by rw [World.frozen?_setCell, World.frozen?_setCell]; exact h.2.1 k, fun k hk => ?_⟩
  obtain ⟨h1, h2⟩ := h.2.2 k hk
  by_cases hi : k = i
  · subst hi
    rw [if_pos (by omega), if_pos (by omega)]
    constructor
    · rw [World.cell?_setCell_other _ _ _ _ (fun e => by injection e with _ e _; omega)]
      exact World.cell?_setCell_same _ _ _ h1
    · exact World.cell?_setCell_same _ _ _ (by rw [World.cell?_setCell_other _ _ _ _ (fun e => by injection e with _ e _; omega)]; exact h2)
  · have e1 : ∀ v u, ((W.setCell ⟨g, i * 2, none⟩ v).setCell ⟨g, i * 2 + 1, none⟩ u).cell? ⟨g, k * 2, none⟩ = W.cell? ⟨g, k * 2, none⟩ := fun v u => by
      rw [World.cell?_setCell_other _ _ _ _ (fun e => by injection e with _ e _; omega), World.cell?_setCell_other _ _ _ _ (fun e => by injection e with _ e _; omega)]
    have e2 : ∀ v u, ((W.setCell ⟨g, i * 2, none⟩ v).setCell ⟨g, i * 2 + 1, none⟩ u).cell? ⟨g, k * 2 + 1, none⟩ = W.cell? ⟨g, k * 2 + 1, none⟩ := fun v u => by
      rw [World.cell?_setCell_other _ _ _ _ (fun e => by injection e with _ e _; omega), World.cell?_setCell_other _ _ _ _ (fun e => by injection e with _ e _; omega)]
    rw [e1, e2, h1, h2]
    by_cases hk2 : k < i
    · rw [if_pos hk2, if_pos hk2, if_pos (by omega), if_pos (by omega)]
      exact ⟨rfl, rfl⟩
    · rw [if_neg hk2, if_neg hk2, if_neg (by omega), if_neg (by omega)]
      exact ⟨rfl, rfl⟩
/-- What stays while places are laid. -/
def KZ (w2 W : World) (g : Nat) (f : Nat → Nat × Nat) (n i : Nat) (bx : Value) : Prop :=
  PZ W g f n i ∧ Below w2.heap.size w2 W ∧ W.cell? ⟨w2.heap.size, 0, none⟩ = some bx ∧ w2.heap.size < g
theorem KZ.past {w2 W W' : World} {g : Nat} {f : Nat → Nat × Nat} {n i : Nat} {bx : Value} (h : KZ w2 W g f n i bx) (hb : Below W.heap.size W W') : KZ w2 W' g f n i bx :=
  ⟨h.1.past hb, bel0 h.2.1 hb, (hb.cell (p := ⟨w2.heap.size, 0, none⟩) (Nat.lt_trans h.2.2.2 h.1.1)).trans h.2.2.1, h.2.2.2⟩
theorem KZ.skip {w2 W : World} {g : Nat} {f : Nat → Nat × Nat} {n i : Nat} {bx : Value} (h : KZ w2 W g f n i bx) (hf : f i = (0, 0)) : KZ w2 W g f n (i + 1) bx := ⟨h.1.skip hf, h.2⟩
theorem KZ.set {w2 W : World} {g : Nat} {f : Nat → Nat × Nat} {n i : Nat} {bx : Value} (h : KZ w2 W g f n i bx) (hin : i < n) (a b : Int) (ha : a = ((f i).1 : Nat)) (hb : b = ((f i).2 : Nat)) : KZ w2 ((W.setCell ⟨g, i * 2, none⟩ (.int .i64 a)).setCell ⟨g, i * 2 + 1, none⟩ (.int .i64 b)) g f n (i + 1) bx := by
  refine ⟨h.1.set hin a b ha hb, belW (belW h.2.1 (Nat.le_of_lt h.2.2.2)) (Nat.le_of_lt h.2.2.2), ?_, h.2.2.2⟩
  have := h.2.2.2
  rw [World.cell?_setCell_other _ _ _ _ (fun e => by injection e with e _ _; omega), World.cell?_setCell_other _ _ _ _ (fun e => by injection e with e _ _; omega)]
  exact h.2.2.1
set_option maxRecDepth 100000 in
set_option maxHeartbeats 8000000 in
theorem moved_any (A A' Al : Option Addr) (L : List Rw) (m n c n' c' nl cl : Nat) (ps : List (Int × Int)) (hn : n = L.length) (hn' : n' = (reflowL m L).length) (hl : n ≤ 1000000) (hl' : n' ≤ 1000000) (hc : n ≤ c) (hc' : n' ≤ c') (hr : ∀ i, i < n → (Ar L i).c.length ≤ 1000000000) (hr' : ∀ i, i < n' → (Ar (reflowL m L) i).c.length ≤ 1000000000) (hf : (flat L).length ≤ 1000000000) (hf' : (flat (reflowL m L)).length ≤ 1000000000)
    (hnl : nl = ps.length) (hll : nl ≤ 1000) (w : World) (h : RR w A L) (h' : RR w A' (reflowL m L)) (hp : RK encPI 2 w Al ps) :
    Calls Try.prog 43 #[.slice A n c, .slice A' n' c', .slice Al nl cl] w fun e w' => ∃ g, e = .returned (.slice (some ⟨g, 0, none⟩) nl nl) ∧ PZ w' g (fun k => movedP m L (ps[k]?.getD (0, 0)).1 (ps[k]?.getD (0, 0)).2) nl nl ∧ Below w.heap.size w w' := by
  have H1 : Hid (Calls Try.prog 52 #[.slice A n c] w fun e w' => ∃ A2 c2, e = .returned (.slice A2 (grp L).length c2) ∧ LNs w' A2 (grp L) ∧ Below w.heap.size w w') := Lib.hid <| linesOf_any A L n c hn (by omega) hc hr hf w h
  have eg : grp (reflowL m L) = (grp L).map (newL m) := grp_joinS m (grp L)
  have H2 : Hid (∀ W, Below w.heap.size w W → Calls Try.prog 52 #[.slice A' n' c'] W fun e w' => ∃ A2 c2, e = .returned (.slice A2 (grp L).length c2) ∧ LNs w' A2 ((grp L).map (newL m)) ∧ Below W.heap.size W w') := Lib.hid fun W hW => by
    have h1 := linesOf_any A' (reflowL m L) n' c' hn' (by omega) hc' hr' hf' W (h'.past hW)
    rw [eg, List.length_map] at h1
    exact h1
  have HP := Lib.hid hp
  have HNL := Lib.hid hnl
  have hmk := mk_pos nl (by omega)
  have HPM := fun W => Lib.hid (PZ.made W (fun k => movedP m L (ps[k]?.getD (0, 0)).1 (ps[k]?.getD (0, 0)).2) nl 39)
  have hgm := grp_len L
  obtain ⟨mm, hmm⟩ : ∃ mm, (grp L).length = mm := ⟨_, rfl⟩
  have HM := Lib.hid hmm
  have HN := Lib.hid hn
  have HN' := Lib.hid hn'
  have HF := Lib.hid hf
  have HF' := Lib.hid hf'
  rw [hmm] at H1 H2 hgm
  rw [← hn] at hgm
  clear h h' hr hr' hf hf' hn hn' hp hnl eg hmm
  obtain ⟨fz, hfz⟩ : ∃ fz : Nat → Nat × Nat, (fun k => movedP m L (ps[k]?.getD (0, 0)).1 (ps[k]?.getD (0, 0)).2) = fz := ⟨_, rfl⟩
  have HFZ : Hid (∀ k, fz k = movedP m L (ps[k]?.getD (0, 0)).1 (ps[k]?.getD (0, 0)).2) := Lib.hid fun k => by rw [← hfz]
  rw [hfz] at HPM ⊢
  clear hfz
  go_enter Try.func43, Try.ntmps43
  go_wp2_with (first
    | (go_at_call 52; (with_reducible refine (H1.out).mono ?_); rintro e w1 ⟨A1, c1, rfl, hl1, hb⟩; have HB1 := Lib.hid hb; have HL1 := Lib.hid hl1; clear hb hl1)
    | (go_at_call 52; (with_reducible refine (H2.out _ HB1.out).mono ?_); rintro e w2 ⟨A2, c2, rfl, hl2, hb⟩; have HB2 := Lib.hid (bel0 HB1.out hb); have HL2 := Lib.hid hl2; have HL12 := Lib.hid (HL1.out.past hb); clear hb hl2))
  have HK0 : Hid (KZ w2 ((w2.alloc (.cells #[.slice A1 mm c1] 78)).alloc (.cells (madeCells #[.int .i64 0, .int .i64 0] (nl * 2)) 39)) (w2.heap.size + 1) fz nl 0 (.slice A1 mm c1)) := Lib.hid (by
    have h1 := (HPM (w2.alloc (.cells #[.slice A1 mm c1] 78))).out
    rw [show (w2.alloc (.cells #[.slice A1 mm c1] 78)).heap.size = w2.heap.size + 1 by simp] at h1
    exact ⟨h1, belA (belA (Below.refl _ _) _) _, ((belA (Below.refl _ _) _).cell (p := ⟨w2.heap.size, 0, none⟩) (lt_alloc w2 _)).trans (cell_of_row _ _ 0 _ _ _ (heap_alloc_new w2 _)), Nat.lt_succ_self _⟩)
  generalize w2.heap.size + 1 = g0 at *
  generalize (w2.alloc (.cells #[.slice A1 mm c1] 78)).alloc (.cells (madeCells #[.int .i64 0, .int .i64 0] (nl * 2)) 39) = W0 at *
  clear HPM hmk H1 H2 HL1
  go_loopw [22] (fun q wr => ∃ i : Nat, q = .int .i64 i ∧ i ≤ nl ∧ Hid (KZ w2 wr g0 fz nl i (.slice A1 mm c1))) (fun q _ => nl - (intOf q).toNat)
  case atStart => exact ⟨0, rfl, Nat.zero_le _, HK0⟩
  case round =>
    obtain ⟨i, rfl, hi, HK⟩ := hrel
    by_cases hlt : i < nl
    · have hlti : (i : Int) < nl := by omega
      obtain ⟨k1, k2, k3, k4⟩ := HK.out
      obtain ⟨p1, p2, p3⟩ := k1
      obtain ⟨p4, p5⟩ := p3 i hlt
      rw [if_neg (Nat.lt_irrefl i)] at p4 p5
      have pf0 := p2 (i * 2)
      have pf1 := p2 (i * 2 + 1)
      have k3l : w2.heap.size < wr.heap.size := Nat.lt_trans k4 p1
      have hps : ps[i]? = some (ps[i]?.getD (0, 0)) := by
        have := HNL.out
        rw [List.getElem?_eq_getElem (by omega)]
        rfl
      have hfi := HFZ.out i
      generalize ps[i]?.getD (0, 0) = pp at *
      obtain ⟨z, col⟩ := pp
      obtain ⟨bl, offl, rfl, _, hcell⟩ := HP.out.past (bel0 HB2.out k2) (fun e => by rw [e] at hps; simp at hps)
      have q0 : wr.cell? ⟨bl, offl + i * 2, none⟩ = some (.int .i64 z) := hcell i _ hps 0 _ rfl
      have q1 : wr.cell? ⟨bl, offl + i * 2 + 1, none⟩ = some (.int .i64 col) := hcell i _ hps 1 _ rfl
      have hfi : fz i = movedP m L z col := hfi
      have HFI := Lib.hid hfi
      clear hcell hps p2 p3 hfi
      have hx := heap_alloc_new wr (.cells #[.int .i64 z, .int .i64 col] 39)
      have HX := Lib.hid hx
      obtain ⟨x0, x1, _, xl⟩ := cell2_of hx
      clear hx
      by_cases hz : (n : Int) ≤ z
      · have dz : decide ((n : Int) ≤ z) = true := decide_eq_true hz
        have HV : Hid (movedP m L z col = (n', 0)) := Lib.hid (by
          unfold movedP
          rw [if_neg (by omega), moveP_over m (grp L) _ col (by rw [grp_all]; have := HN.out; omega), HN'.out]
          rfl)
        have ha0 : (n' : Int) = ((fz i).1 : Nat) := by rw [HFI.out, HV.out]
        have hb0 : (0 : Int) = ((fz i).2 : Nat) := by rw [HFI.out, HV.out]; rfl
        have HAB := Lib.hid (And.intro ha0 hb0)
        clear ha0 hb0
        go_wp2_with fail
        go_roundw
        case rel => exact ⟨i + 1, by go_num, hlt, Lib.hid (by
          first
            | exact (HK.out.set hlt _ _ HAB.out.1 HAB.out.2).past (belA (Below.refl _ _) _)
            | exact (HK.out.past (belA (Below.refl _ _) _)).set hlt _ _ HAB.out.1 HAB.out.2)⟩
        case measure => simp [intOf]; omega
      · have dz : decide ((n : Int) ≤ z) = false := decide_eq_false hz
        by_cases hz0 : 0 ≤ z
        · have dz0 : decide (0 ≤ z) = true := decide_eq_true hz0
          obtain ⟨j, g, hg, hj1, hj2⟩ := line_of (grp L) z.toNat (by rw [grp_all]; have := HN.out; omega)
          have hjm : j < mm := by rw [← HM.out]; exact (List.getElem?_eq_some_iff.1 hg).1
          obtain ⟨rs1, hr1, hrk1, hok1⟩ := HL12.out.past k2
          obtain ⟨rs2, hr2, hrk2, hok2⟩ := HL2.out.past k2
          rw [HM.out] at hr1
          rw [List.length_map, HM.out] at hr2
          obtain ⟨⟨s, q, gl⟩, hy1⟩ : ∃ y, rs1[j]? = some y := ⟨_, List.getElem?_eq_getElem (by omega)⟩
          obtain ⟨⟨t, q', gl'⟩, hy2⟩ : ∃ y, rs2[j]? = some y := ⟨_, List.getElem?_eq_getElem (by omega)⟩
          have hg2 : ((grp L).map (newL m))[j]? = some (newL m g) := by rw [List.getElem?_map, hg]; rfl
          obtain ⟨o1, o2, o3⟩ := hok1 j _ g hy1 hg
          obtain ⟨t1, t2, t3⟩ := hok2 j _ _ hy2 hg2
          replace o1 : s = (joinL ((grp L).take j)).length := o1
          replace o2 : gl = g.length := o2
          replace o3 : RN wr q g := o3
          replace t1 : t = (joinL (((grp L).map (newL m)).take j)).length := t1
          replace t2 : gl' = (newL m g).length := t2
          replace t3 : RN wr q' (newL m g) := t3
          obtain ⟨b1, off1, rfl, hb1l, hc1⟩ := hrk1 (fun e => by rw [e] at hr1; simp at hr1; omega)
          obtain ⟨b2, off2, rfl, hb2l, hc2⟩ := hrk2 (fun e => by rw [e] at hr2; simp at hr2; omega)
          have HCV : Hid (∀ V, Below wr.heap.size wr V → V.cell? ⟨b1, off1 + j * 2, none⟩ = some (.int .i64 (s : Int)) ∧ V.cell? ⟨b1, off1 + j * 2 + 1, none⟩ = some (.slice (some ⟨q, 0, none⟩) (gl + 1) (gl + 1)) ∧ V.cell? ⟨b2, off2 + j * 2, none⟩ = some (.int .i64 (t : Int)) ∧ V.cell? ⟨b2, off2 + j * 2 + 1, none⟩ = some (.slice (some ⟨q', 0, none⟩) (gl' + 1) (gl' + 1)) ∧ V.cell? ⟨w2.heap.size, 0, none⟩ = some (.slice (some ⟨b1, off1, none⟩) mm c1)) := Lib.hid fun V hV =>
            ⟨(hV.cell (p := ⟨b1, off1 + j * 2, none⟩) hb1l).trans (hc1 j _ hy1 0 _ rfl), (hV.cell (p := ⟨b1, off1 + j * 2 + 1, none⟩) hb1l).trans (hc1 j _ hy1 1 _ rfl), (hV.cell (p := ⟨b2, off2 + j * 2, none⟩) hb2l).trans (hc2 j _ hy2 0 _ rfl), (hV.cell (p := ⟨b2, off2 + j * 2 + 1, none⟩) hb2l).trans (hc2 j _ hy2 1 _ rfl), (hV.cell (p := ⟨w2.heap.size, 0, none⟩) k3l).trans k3⟩
          obtain ⟨jn, hjn⟩ : ∃ jn, j + 1 = jn := ⟨_, rfl⟩
          have HS : Hid (Calls Try.prog 49 #[.int .i64 mm, .func (.func 53) #[] #[.pointer (some ⟨w2.heap.size, 0, none⟩), .pointer (some ⟨wr.heap.size, 0, none⟩)]] (wr.alloc (.cells #[.int .i64 z, .int .i64 col] 39)) fun e w' => e = .returned (.int .i64 jn) ∧ Below (wr.alloc (.cells #[.int .i64 z, .int .i64 col] 39)).heap.size (wr.alloc (.cells #[.int .i64 z, .int .i64 col] 39)) w') := Lib.hid (by
            subst hjn
            refine search_moved ⟨w2.heap.size, 0, none⟩ ⟨wr.heap.size, 0, none⟩ (fun k => decide (z < ((joinL ((grp L).take k)).length : Nat))) mm (j + 1) (by omega) hjm (fun k hk => ?_) (fun k hk hk2 => ?_) _ (fun V k hk hV => ?_)
            · refine decide_eq_false ?_
              have := take_join_le (grp L) k j (by omega)
              omega
            · refine decide_eq_true ?_
              have h1 := take_join_le (grp L) (j + 1) k hk
              rw [List.take_add_one, hg, joinL_app] at h1
              simp [joinL] at h1
              omega
            · have hVr := bel1 (Below.refl wr.heap.size wr) hV
              obtain ⟨y, hy⟩ : ∃ y, rs1[k]? = some y := ⟨_, List.getElem?_eq_getElem (by omega)⟩
              obtain ⟨g', hg'⟩ : ∃ g', (grp L)[k]? = some g' := ⟨_, List.getElem?_eq_getElem (by rw [HM.out]; exact hk)⟩
              obtain ⟨e1, _, _⟩ := hok1 k y g' hy hg'
              rw [← e1]
              exact moved1_any w2.heap.size wr.heap.size b1 off1 mm c1 k y.1 z hk V ((hVr.cell (p := ⟨w2.heap.size, 0, none⟩) k3l).trans k3) ((hV.cell (p := ⟨wr.heap.size, 0, none⟩) xl).trans x0) ((hVr.cell (p := ⟨b1, off1 + k * 2, none⟩) hb1l).trans (hc1 k y hy 0 _ rfl)))
          obtain ⟨fa, fb, hfab⟩ : ∃ fa fb, fz i = (fa, fb) := ⟨_, _, rfl⟩
          have HFAB := Lib.hid hfab
          have HT : Hid (∀ V, Below wr.heap.size wr V → Calls Try.prog 54 #[.agg #[.int .i64 (s : Int), .slice (some ⟨q, 0, none⟩) (gl + 1) (gl + 1)], .agg #[.int .i64 (t : Int), .slice (some ⟨q', 0, none⟩) (gl' + 1) (gl' + 1)], .agg #[.int .i64 z, .int .i64 col]] V fun e w' => e = .returned (.agg #[.int .i64 (fa : Int), .int .i64 (fb : Int)]) ∧ Below wr.heap.size wr w') := Lib.hid fun V hV => by
            have hjl := join_le (grp L) j g hg
            have hjl2 := join_le ((grp L).map (newL m)) j (newL m g) hg2
            have ej : joinL ((grp L).map (newL m)) = reflowL m L := rfl
            rw [grp_all] at hjl
            rw [ej] at hjl2
            have f1 : (flat g).length ≤ 1000000000 := by
              have h1 := join_cut (grp L) j g hg
              rw [grp_all] at h1
              have h2 := flat_take_le L ((joinL ((grp L).take j)).length + g.length)
              have h3 : (flat ((L.take ((joinL ((grp L).take j)).length + g.length)).drop (joinL ((grp L).take j)).length)).length ≤ (flat (L.take ((joinL ((grp L).take j)).length + g.length))).length := by
                conv => rhs; rw [← List.take_append_drop (joinL ((grp L).take j)).length (L.take ((joinL ((grp L).take j)).length + g.length)), flat_app]
                simp
              rw [h1] at h3
              have := HF.out
              omega
            have f2 : (flat (newL m g)).length ≤ 1000000000 := by
              have h1 := join_cut ((grp L).map (newL m)) j (newL m g) hg2
              rw [ej] at h1
              have h2 := flat_take_le (reflowL m L) ((joinL (((grp L).map (newL m)).take j)).length + (newL m g).length)
              have h3 : (flat (((reflowL m L).take ((joinL (((grp L).map (newL m)).take j)).length + (newL m g).length)).drop (joinL (((grp L).map (newL m)).take j)).length)).length ≤ (flat ((reflowL m L).take ((joinL (((grp L).map (newL m)).take j)).length + (newL m g).length))).length := by
                conv => rhs; rw [← List.take_append_drop (joinL (((grp L).map (newL m)).take j)).length ((reflowL m L).take ((joinL (((grp L).map (newL m)).take j)).length + (newL m g).length)), flat_app]
                simp
              rw [h1] at h3
              have := HF'.out
              omega
            have hn1 := HN.out
            have hn2 := HN'.out
            have h := to_any s t q q' gl gl' g (newL m g) z col o2 t2 (by omega) (by omega) f1 f2 (by omega) (by omega) hz0 (by omega) V (o3.past hV) (t3.past hV)
            have hz2 : offZ g (z - (s : Nat)) col = offR g (z.toNat - (joinL ((grp L).take j)).length) col := by
              unfold offZ
              rw [if_neg (by omega), show (z - (s : Nat)).toNat = z.toNat - (joinL ((grp L).take j)).length by omega]
            have hm : fz i = (t + (placeR (newL m g) (offZ g (z - (s : Nat)) col)).1, (placeR (newL m g) (offZ g (z - (s : Nat)) col)).2) := by
              rw [HFI.out, hz2, t1]
              unfold movedP
              rw [if_neg (by omega), moveP_at m (grp L) j g z.toNat col hg hj1 hj2]
            rw [hfab] at hm
            injection hm with hm1 hm2
            rw [← hm1, ← hm2] at h
            exact h.mono fun e w' ⟨he, hb⟩ => ⟨he, bel0 hV hb⟩
          have hwj : IntKind.i64.wrap (j : Int) = (j : Int) := by rw [IntKind.wrap_i64]; omega
          have hji : (jn : Int) - 1 = (j : Int) := by omega
          have hj0 : (0 : Int) ≤ (j : Int) := by omega
          have hjmi : (j : Int) < (mm : Int) := by omega
          have hjm1 : jn ≤ mm := by omega
          clear hg hj1 hj2 hr1 hr2 hrk1 hrk2 hok1 hok2 hy1 hy2 hg2 o1 o2 o3 t1 t2 t3 hc1 hc2 hjn hfab
          clear HN HN' HF HF' HM
          go_wp2_with (first
            | (go_at_call 49; (with_reducible refine (HS.out).mono ?_); rintro e w5 ⟨rfl, hb5⟩; have HB5 := Lib.hid (bel1 (Below.refl wr.heap.size wr) hb5); obtain ⟨v0, v1, v2, v3, v4⟩ := HCV.out _ HB5.out; have v5 := (hb5.cell (p := ⟨wr.heap.size, 0, none⟩) xl).trans x0; have v6 := (hb5.cell (p := ⟨wr.heap.size, 1, none⟩) xl).trans x1; clear hb5))
          go_region_law (first
            | (go_simp; go_at_call 54; (first | (with_reducible refine (HT.out _ HB5.out).mono ?_) | (with_reducible refine (HT.out _ HB5.out.drew).mono ?_)); rintro e w6 ⟨rfl, hb6⟩; have HB6 := Lib.hid hb6; have HK6 := Lib.hid (HK.out.past hb6); obtain ⟨m1, m2, m3⟩ := HK6.out.1; obtain ⟨m4, m5⟩ := m3 i hlt; rw [if_neg (Nat.lt_irrefl i)] at m4 m5; have m6 := m2 (i * 2); have m7 := m2 (i * 2 + 1); clear hb6 m2 m3))
          all_goals
            go_wp2_with fail
            go_roundw
            case rel => exact ⟨i + 1, by go_num, hlt, Lib.hid (HK6.out.set hlt _ _ (by rw [HFAB.out]) (by rw [HFAB.out]))⟩
            case measure => simp [intOf]; omega
        · have dz0 : decide (0 ≤ z) = false := decide_eq_false hz0
          have HV : Hid (movedP m L z col = (0, 0)) := Lib.hid (by
            unfold movedP
            rw [if_pos (by omega)])
          go_wp2_with fail
          go_roundw
          case rel => exact ⟨i + 1, by go_num, hlt, Lib.hid ((HK.out.skip (by rw [HFI.out, HV.out])).past (belA (Below.refl _ _) _))⟩
          case measure => simp [intOf]; omega
    · obtain rfl : i = nl := by omega
      have HE := Lib.hid HK.out.1
      have HBE := Lib.hid (bel0 HB2.out HK.out.2.1)
      clear HK HK0
      go_wp2
      go_ret
      exact ⟨g0, rfl, HE.out, HBE.out⟩
end Go.Proofs.Ytfjgfmeanehpmaa
