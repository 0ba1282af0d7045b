/- Rows joined to rows; the walk of flow.Reflow. -/
import Derived.Test.YtfjgfmeanehpmaaLd
import Derived.Test.YtfjgfmeanehpmaaHs
import Derived.Deep.AppendLies
namespace Go.Proofs.Ytfjgfmeanehpmaa
open Go.RowKit

/-- Rows joined to rows of one's own. -/
theorem ORW.join {B : Nat} {w w5 : World} {v v5 : Value} {L M : List Rw} {raw rawM : List Raw} (h1 : raw.length = L.length) (h2 : w.ownsRow B 31 2 v L.length (rowsV encW raw)) (h3 : ∀ (i : Nat) (r : Raw) (x : Rw), raw[i]? = some r → L[i]? = some x → IC B w r x)
    (m3 : ∀ (i : Nat) (r : Raw) (x : Rw), rawM[i]? = some r → M[i]? = some x → IC B w r x) (m1 : rawM.length = M.length) (hg : w.grownBy w5 v.ownBlock) (h5 : w5.ownsRow B 31 2 v5 (L.length + M.length) (rowsV encW raw ++ rowsV encW rawM)) : ORW B w5 v5 (L ++ M) := by
  refine ⟨raw ++ rawM, by simp [h1, m1], by rw [rowsV_app, List.length_append]; exact h5, fun i r x hr hx => ?_⟩
  by_cases hi : i < L.length
  · rw [List.getElem?_append_left (by omega)] at hr
    rw [List.getElem?_append_left hi] at hx
    exact (h3 i r x hr hx).grown h2 ne_rc hg
  · rw [List.getElem?_append_right (by omega)] at hr hx
    rw [h1] at hr
    exact (m3 _ r x hr hx).grown h2 ne_rc hg
theorem flowL_len (L : List Rw) : (flowL L).length ≤ (flat L).length := by
  have h : (flowL L).length ≤ (mendL (flat L)).length := by unfold flowL; rw [List.length_take]; omega
  rwa [mendL_len] at h
theorem newL_len (m : Nat) (h2 : 2 ≤ m) (g : List Rw) : (newL m g).length ≤ (flat g).length + 1 := by
  have h1 := (lay_rows m h2 (flowL g)).2
  have h3 := flowL_len g
  have h4 : (newL m g).length = (splitL m (flowL g)).length := rfl
  omega
theorem joinS_snoc (m : Nat) (gs : List (List Rw)) (k : Nat) (g : List Rw) (h : gs[k]? = some g) : joinS m (gs.take (k + 1)) = joinS m (gs.take k) ++ newL m g := by
  unfold joinS
  rw [List.take_add_one, h, List.map_append, joinL_app]
  simp [joinL]
theorem joinS_len (m : Nat) (h2 : 2 ≤ m) : ∀ gs : List (List Rw), (joinS m gs).length ≤ (flat (joinL gs)).length + gs.length
  | [] => by simp [joinS, joinL]
  | g :: gs => by
    have h1 := joinS_len m h2 gs
    have h3 := newL_len m h2 g
    have e : joinS m (g :: gs) = newL m g ++ joinS m gs := rfl
    have e2 : joinL (g :: gs) = g ++ joinL gs := rfl
    rw [e, e2, flat_app]
    simp
    omega
theorem joinS_take_len (m : Nat) (h2 : 2 ≤ m) (gs : List (List Rw)) (k : Nat) : (joinS m (gs.take k)).length ≤ (flat (joinL gs)).length + gs.length := by
  have h1 := joinS_len m h2 (gs.take k)
  have h3 : (flat (joinL (gs.take k))).length ≤ (flat (joinL gs)).length := by
    conv => rhs; rw [← List.take_append_drop k gs, joinL_app, flat_app]
    simp
  have h4 : (gs.take k).length ≤ gs.length := by simp; omega
  omega
set_option maxRecDepth 100000 in
set_option maxHeartbeats 8000000 in
theorem reflow_any (A : Option Addr) (L : List Rw) (n c m : Nat) (pv : Value) (P : Value → World → Prop) (hn : n = L.length) (hl : n ≤ 10000000) (hc : n ≤ c) (h2 : 2 ≤ m) (hm : m ≤ 1000) (hr : ∀ i, i < n → (Ar L i).c.length ≤ 1000000000) (hf : (flat L).length ≤ 100000) (w : World) (h : RR w A L)
    (hmv : ∀ W A' c', Below w.heap.size w W → RR W A' (reflowL m L) → (reflowL m L).length ≤ c' → Calls Try.prog 43 #[.slice A n c, .slice A' (reflowL m L).length c', pv] W fun e w' => ∃ v, e = .returned v ∧ P v w' ∧ Below W.heap.size W w') :
    Calls Try.prog 25 #[.slice A n c, .int .i64 m, pv] w fun e w' => ∃ A' c' v, e = .returned (.tuple #[.slice A' (reflowL m L).length c', v]) ∧ (reflowL m L).length ≤ c' ∧ RR w' A' (reflowL m L) ∧ P v w' ∧ Below w.heap.size w w' := by
  have HW := Lib.hid (isWidth_any (m : Int) w)
  rw [decide_eq_true (by omega)] at HW
  have HMV := Lib.hid hmv
  have HLI : Hid (Calls Try.prog 12 #[.slice A n c] w fun e w' => ∃ A' c', e = .returned (.slice A' (grp L).length c') ∧ RK encN 2 w' A' (offs 0 (grp L)) ∧ Below w.heap.size w w') := Lib.hid <| (lines_any A L n c hn (by omega) hc w h).mono fun e w' ⟨v, he, hb, ho⟩ => by
    obtain ⟨A', c', hv, _⟩ := own_formK ho
    subst hv
    exact ⟨A', c', he, RK.of_own encN_len ho (offs_len _ _).symm, hb⟩
  have HFL : Hid (∀ W b off c' s (g : List Rw), A = some ⟨b, off, none⟩ → Below w.heap.size w W → (L.take (s + g.length)).drop s = g → s + g.length ≤ n → (flat g).length ≤ 100000 ∧ Calls Try.prog 15 #[.slice (some ⟨b, off + s * 2, none⟩) g.length c'] W fun e w' => ∃ A2 n2 c2, e = .returned (.slice A2 n2 c2) ∧ n2 = (flowL g).length ∧ RC w' w'.heap.size A2 (flowL g) ∧ Below W.heap.size W w') := Lib.hid fun W b off c' s g hA hW hg hs => by
    subst hA
    have hR := ((h.past hW).take (s + g.length)).drop s
    rw [hg] at hR
    have hfl : (flat g).length ≤ (flat L).length := by
      have h1 := flat_take_le L (s + g.length)
      have h2 : (flat ((L.take (s + g.length)).drop s)).length ≤ (flat (L.take (s + g.length))).length := by
        conv => rhs; rw [← List.take_append_drop s (L.take (s + g.length)), flat_app]
        simp
      rw [hg] at h2
      omega
    refine ⟨by omega, (flow_any _ g g.length c' rfl (by omega) (fun i hi => ?_) (by omega) W hR).mono fun e w' ⟨v, he, ho, hb⟩ => ?_⟩
    · have e1 : Ar g i = Ar L (s + i) := by
        rw [← hg, Ar_drop, Ar_take L _ _ (by omega)]
      rw [e1]
      exact hr (s + i) (by omega)
    · obtain ⟨A2, c2, hv, _, hrc⟩ := ho.form'
      subst hv
      exact ⟨A2, _, c2, he, rfl, hrc, hb⟩
  have HSP : Hid (∀ W A2 n2 c2 (f : List CC), n2 = f.length → n2 ≤ 100000 → RC W W.heap.size A2 f → Calls Try.prog 17 #[.slice A2 n2 c2, .int .i64 m] W fun e w' => ∃ g3 s3 c3 rawM, e = .returned (.slice (some ⟨g3, 0, none⟩) s3 c3) ∧ s3 = (splitL m f).length ∧ s3 ≤ 100001 ∧ rawM.length = (splitL m f).length ∧ (∀ j u, (rowsV encW rawM)[j]? = some u → w'.cell? ((⟨g3, 0, none⟩ : Addr).add j) = some u) ∧ (∀ (i : Nat) (r : Raw) (x : Rw), rawM[i]? = some r → (splitL m f)[i]? = some x → IC W.heap.size w' r x) ∧ Below W.heap.size W w') := Lib.hid fun W A2 n2 c2 f h1 h3 hR => (split_any A2 f n2 c2 m h1 h2 hm h3 W hR).mono fun e w' ⟨v, he, ho, hb⟩ => by
    obtain ⟨raw, r1, r2, r3⟩ := ho
    have hpos : 0 < (splitL m f).length := (lay_len m _ _ _).1
    have hle := (lay_rows m h2 f).2
    obtain ⟨g3, c3, hv, _, _⟩ := r2.form hpos
    subst hv
    exact ⟨g3, _, c3, raw, he, rfl, by omega, r1, r2.cells (g := g3) (by simp [Value.ownBlock]), r3, hb⟩
  have HJ : Hid (joinL (grp L) = L) := Lib.hid (grp_all L)
  have HN := Lib.hid hn
  have HR := Lib.hid h
  have hgl : (grp L).length ≤ n := by
    have := lineAt_len (L := L) (a := L.length) (ps := offs 0 (grp L)) ⟨grp L, by rw [List.drop_length, grp_nil, List.append_nil], by rw [grp_all], rfl⟩
    rw [offs_len] at this
    omega
  have HJT : Hid (∀ k, (joinS m ((grp L).take k)).length ≤ 10100000) := Lib.hid fun k => by
    have h1 := joinS_take_len m h2 (grp L) k
    rw [grp_all] at h1
    omega
  obtain ⟨i0, hi0, hz0, hz1, hz2⟩ := info_parts infoRow
  clear h hn hr hf hmv
  obtain ⟨mm, hmm⟩ : ∃ mm, (grp L).length = mm := ⟨_, rfl⟩
  have HM := Lib.hid hmm
  rw [hmm] at HLI hgl
  clear hmm
  go_enter Try.func25, Try.ntmps25
  go_wp2_with (first
    | (go_at_call 34; (with_reducible refine (HW.out).mono ?_); rintro e w1 ⟨rfl, rfl⟩)
    | (go_at_call 12; (with_reducible refine (HLI.out).mono ?_); rintro e w1 ⟨A7, c7, rfl, hrk, hb⟩; have HB1 := Lib.hid hb; have HRK := Lib.hid hrk; clear hb hrk))
  clear HLI HW
  go_loopw [8, 21] (fun v q wr => ∃ (k na : Nat) (vo : Value), vo = v ∧ q = .int .i64 k ∧ k ≤ mm ∧ na ≤ 10100000 ∧ Hid ((joinS m ((grp L).take k)).length = na ∧ ORW w1.heap.size wr vo (joinS m ((grp L).take k))) ∧ Hid (Below w1.heap.size w1 wr)) (fun _ q _ => mm - (intOf q).toNat)
  case atStart => exact ⟨0, 0, _, rfl, rfl, Nat.zero_le _, Nat.zero_le _, Lib.hid ⟨rfl, ORW.nil _ _⟩, Lib.hid (Below.refl _ _)⟩
  case round =>
    obtain ⟨k, na, vo, rfl, rfl, hk, hna, HO, HB⟩ := hrel
    by_cases hlt : k < mm
    · have hlti : (k : Int) < mm := by omega
      obtain ⟨g, hg⟩ : ∃ g, (grp L)[k]? = some g := ⟨_, List.getElem?_eq_getElem (by rw [HM.out]; exact hlt)⟩
      have hog := offs_get 0 (grp L) k g hg
      have hjc := join_cut (grp L) k g hg
      have hjl := join_le (grp L) k g hg
      rw [HJ.out] at hjc hjl
      rw [Nat.zero_add] at hog
      have hg0 : 0 < g.length := List.length_pos_iff.2 (grp_mem L g (List.mem_of_getElem? hg))
      have hsn := joinS_snoc m (grp L) k g hg
      obtain ⟨s, hs⟩ : ∃ s, (joinL ((grp L).take k)).length = s := ⟨_, rfl⟩
      rw [hs] at hog hjc hjl
      rw [← HN.out] at hjl
      obtain ⟨b7, off7, rfl, _, hcell⟩ := (HRK.out.past HB.out) (fun e => by rw [e] at hog; simp at hog)
      have c0 : wr.cell? ⟨b7, off7 + k * 2, none⟩ = some (.int .i64 (s : Int)) := hcell k _ hog 0 _ rfl
      have c1 : wr.cell? ⟨b7, off7 + k * 2 + 1, none⟩ = some (.int .i64 ((s + g.length : Nat) : Int)) := hcell k _ hog 1 _ rfl
      obtain ⟨b, off, rfl⟩ := HR.out.some (fun e => by have := HN.out; rw [e] at this; simp at this; omega)
      have HF1 := Lib.hid (fun W c' hW => HFL.out W b off c' s g rfl hW hjc hjl)
      obtain ⟨hona, raw, hrs, hown, hok⟩ := HO.out
      rw [hona] at hown
      obtain ⟨Ao, co, rfl, _⟩ := own_formK hown
      obtain ⟨gl, hgl2⟩ : ∃ gl, g.length = gl := ⟨_, rfl⟩
      rw [hgl2] at c1 hjl hg0 HF1
      have hjt := HJT.out (k + 1)
      rw [hsn, List.length_append, hona] at hjt
      have hf0 : (flat g).length ≤ 100000 := (HF1.out w c (Below.refl _ _)).1
      have HSL := Lib.hid hjt
      have HF0 := Lib.hid (Nat.le_trans (flowL_len g) hf0)
      clear hcell hog hjc hg hs hgl2 hjt hf0
      have HX1 : Hid (∀ W w8 w5 v5 s3 rawM, Below wr.heap.size wr W → Below W.heap.size W w8 → s3 = (splitL m (flowL g)).length → rawM.length = (splitL m (flowL g)).length → (∀ (i : Nat) (r : Raw) (x : Rw), rawM[i]? = some r → (splitL m (flowL g))[i]? = some x → IC W.heap.size w8 r x) → w5.ownsRow w1.heap.size 31 2 v5 (na + s3) (rowsV encW raw ++ rowsV encW rawM) → w8.grownBy w5 (Value.slice Ao na co).ownBlock → na + s3 ≤ 10100000 ∧ ((joinS m ((grp L).take (k + 1))).length = na + s3 ∧ ORW w1.heap.size w5 v5 (joinS m ((grp L).take (k + 1)))) ∧ Below w1.heap.size w1 w5) := Lib.hid fun W w8 w5 v5 s3 rawM hW h8 hs3 hrl h3 h5 hg5 => by
        have hb := bel0 hW h8
        have hoa := own_pastK hown hb
        have hnl : (newL m g).length = s3 := hs3.symm
        have hH := HSL.out
        rw [hnl] at hH
        refine ⟨hH, ⟨by rw [hsn, List.length_append, hona, hnl], ?_⟩, own_below hoa (bel0 HB.out hb) (bel0 HB.out hb).size hg5⟩
        rw [hsn]
        rw [← hona] at hoa hg5
        refine ORW.join hrs hoa (fun i r x hr hx => (hok i r x hr hx).past hb) (fun i r x hr hx => (h3 i r x hr hx).more (Nat.le_trans HB.out.size hW.size)) hrl hg5 ?_
        rw [hona]
        have : s3 = (newL m g).length := hs3
        rw [← this]
        exact h5
      have HOWN : Hid (∀ W, Below wr.heap.size wr W → W.ownsRow w1.heap.size 31 2 (.slice Ao na co) na (rowsV encW raw)) := Lib.hid fun W hW => own_pastK hown hW
      clear hown hok hrs HO HJ hsn hona
      generalize rowsV encW raw = os at HOWN HX1
      have hws := HB.out.size
      have hx := heap_alloc_new wr (.cells #[.int .i64 (s : Int), .int .i64 ((s + gl : Nat) : Int)] 27)
      have HBA := Lib.hid (belA (Below.refl wr.heap.size wr) (.cells #[.int .i64 (s : Int), .int .i64 ((s + gl : Nat) : Int)] 27))
      have hc8 := hc
      obtain ⟨t, ht⟩ : ∃ t, s + gl = t := ⟨_, rfl⟩
      have hgt : t - s = gl := by omega
      have hst : s ≤ t := by omega
      have htc : t ≤ c := by omega
      have hsti : (s : Int) ≤ t := by omega
      have htci : (t : Int) ≤ c := by omega
      rw [ht] at c1 hx HBA hjl
      clear ht
      have hs3c : ¬ (c = s) := by omega
      go_wp2_with (first
        | (go_at_call 15; (with_reducible refine ((HF1.out _ _ (bel0 HB1.out (bel0 HB.out HBA.out))).2).mono ?_); rintro e w8 ⟨A2, n2, c2, rfl, hn2, hrc, hb⟩; have HN2 := Lib.hid hn2; have HRC2 := Lib.hid hrc; have HB8 := Lib.hid (bel0 HBA.out hb); clear hn2 hrc hb)
        | (go_at_call 17; (with_reducible refine (HSP.out _ _ _ _ _ HN2.out (HN2.out ▸ HF0.out) HRC2.out).mono ?_); rintro e w9 ⟨g3, s3, c3, rawM, rfl, hs3, hs3l, hrl, hcl, h3, hb⟩; have hs9 := hb.size; have HS3 := Lib.hid hs3; have HRL := Lib.hid hrl; have HCL := Lib.hid hcl; have H3 := Lib.hid h3; have HB9 := Lib.hid hb; clear hs3 hrl hcl h3 hb)
        | (at_builtin; go_must (refine wpList_append_own _ rfl _ _ 22 rfl w1.heap.size 31 i0 _ 2 32 Try.underlying22 hi0 hz0 hz1 hz2 rfl (by decide) (.slice Ao na co) na os rfl (HOWN.out _ (bel0 HB8.out HB9.out)) ⟨g3, 0, none⟩ s3 c3 (rowsV encW rawM) rfl (by rw [rowsV_len _ 2 encW_len, HRL.out, HS3.out]) HCL.out (rowsV_one _ encW_one _) (by unfold maxLen; omega) (by omega) (Nat.le_trans HB.out.size (bel0 HB8.out HB9.out).size) ?_; intro v5 w5 hown5 hgrow5 _; have HZ := Lib.hid (HX1.out _ _ _ _ _ _ HB8.out HB9.out HS3.out HRL.out H3.out hown5 hgrow5); clear hown5 hgrow5)))
      go_roundw
      case rel => exact ⟨k + 1, na + s3, _, rfl, by go_num, hlt, HZ.out.1, Lib.hid HZ.out.2.1, Lib.hid HZ.out.2.2⟩
      case measure => simp [intOf]; omega
    · obtain rfl : k = mm := by omega
      have HE : Hid (∃ A' c', vo = .slice A' (reflowL m L).length c' ∧ (reflowL m L).length ≤ c' ∧ RR wr A' (reflowL m L) ∧ Below w.heap.size w wr) := Lib.hid (by
        have e : joinS m ((grp L).take k) = reflowL m L := by
          rw [← HM.out, List.take_length]
          rfl
        obtain ⟨h1, h3⟩ := HO.out
        rw [e] at h3
        obtain ⟨A', c', hv, hc'⟩ := h3.form
        subst hv
        exact ⟨A', c', rfl, hc', h3.read.2, bel0 HB1.out HB.out⟩)
      obtain ⟨A', c', rfl, hE0, hE1, hE2⟩ := HE.out
      have HE0 := Lib.hid hE0
      have HE1 := Lib.hid hE1
      have HE2 := Lib.hid hE2
      clear hE0 hE1 hE2 HE HO
      go_wp2_with (go_at_call 43; (with_reducible refine (HMV.out _ _ _ HE2.out HE1.out HE0.out).mono ?_); rintro e w6 ⟨v6, rfl, hP, hb⟩; have HP6 := Lib.hid hP; have HB6 := Lib.hid hb; clear hP hb)
      refine bodyPost_ret (v := .tuple #[.slice A' (reflowL m L).length c', v6]) (by simp [results, Try.results25, go_sem]) rfl ?_
      exact ⟨A', c', v6, rfl, HE0.out, HE1.out.past HB6.out, HP6.out, bel0 HE2.out HB6.out⟩
end Go.Proofs.Ytfjgfmeanehpmaa
