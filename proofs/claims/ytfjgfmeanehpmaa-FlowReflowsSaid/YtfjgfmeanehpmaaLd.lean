/- Lines with their counts; the walk of flow.linesOf. -/
import Derived.Test.YtfjgfmeanehpmaaHz
import Derived.Test.YtfjgfmeanehpmaaHi
import Derived.Test.YtfjgfmeanehpmaaHq
import Derived.Deep.RegionLaw
namespace Go.Proofs.Ytfjgfmeanehpmaa
open Go.RowKit

theorem RN.grown {w w5 : World} {B g : Nat} {L : List Rw} {z : Nat} {v : Value} {n : Nat} {xs : List Value} {T : TypeId} (h : RN w g L) (ho : w.ownsRow B T z v n xs) (hT : T ≠ 3) (hg : w.grownBy w5 v.ownBlock) : RN w5 g L := by
  obtain ⟨cur, hc⟩ := h.row
  have e := hg.block g h.lt (fun e => by
    obtain ⟨c1, h1⟩ := own_ty ho e.symm
    rw [h1] at hc
    injection hc with hc
    injection hc with _ h3 _
    exact hT h3)
  have ec : ∀ k, w5.cell? ⟨g, k, none⟩ = w.cell? ⟨g, k, none⟩ := fun k => by simp [World.cell?, e]
  exact ⟨Nat.lt_of_lt_of_le h.lt hg.size, fun k hk => (ec k).trans (h.at' k hk), cur, e.trans hc⟩
theorem offs_get : ∀ (s : Nat) (gs : List (List Rw)) (i : Nat) (g : List Rw), gs[i]? = some g → (offs s gs)[i]? = some (s + (joinL (gs.take i)).length, s + (joinL (gs.take i)).length + g.length)
  | _, [], i, g, h => by simp at h
  | s, x :: gs, 0, g, h => by
    obtain rfl : x = g := by simpa using h
    simp [offs, joinL]
  | s, x :: gs, i + 1, g, h => by
    have := offs_get (s + x.length) gs i g (by simpa using h)
    show (offs (s + x.length) gs)[i]? = _
    rw [this]
    simp [joinL, Nat.add_assoc]
theorem join_cut : ∀ (gs : List (List Rw)) (i : Nat) (g : List Rw), gs[i]? = some g → ((joinL gs).take ((joinL (gs.take i)).length + g.length)).drop (joinL (gs.take i)).length = g
  | [], i, g, h => by simp at h
  | x :: gs, 0, g, h => by
    obtain rfl : x = g := by simpa using h
    show ((x ++ joinL gs).take (0 + x.length)).drop 0 = x
    rw [Nat.zero_add, List.take_left, List.drop_zero]
  | x :: gs, i + 1, g, h => by
    have := join_cut gs i g (by simpa using h)
    show ((x ++ joinL gs).take ((x ++ joinL (gs.take i)).length + g.length)).drop (x ++ joinL (gs.take i)).length = g
    rw [List.length_append, Nat.add_assoc, List.take_length_add_append, List.drop_length_add_append]
    exact this
theorem join_le : ∀ (gs : List (List Rw)) (i : Nat) (g : List Rw), gs[i]? = some g → (joinL (gs.take i)).length + g.length ≤ (joinL gs).length
  | [], i, g, h => by simp at h
  | x :: gs, 0, g, h => by
    obtain rfl : x = g := by simpa using h
    simp [joinL]
  | x :: gs, i + 1, g, h => by
    have := join_le gs i g (by simpa using h)
    simp [joinL]
    omega
/-- A line: where it begins, where its counts lie, how many rows it has. -/
def encLn (x : Nat × Nat × Nat) : List Value := [.int .i64 (x.1 : Int), .slice (some ⟨x.2.1, 0, none⟩) (x.2.2 + 1) (x.2.2 + 1)]
theorem encLn_len (x : Nat × Nat × Nat) : (encLn x).length = 2 := rfl
theorem encLn_one (x : Nat × Nat × Nat) : ∀ u ∈ encLn x, u.oneCell' = true := fun u h => by
  simp only [encLn, List.mem_cons, List.not_mem_nil, or_false] at h
  rcases h with rfl | rfl <;> rfl
theorem infoLn : (Try.prog.info? 81).map (fun i => (i.zero, i.size, i.bytes)) = some (some (.agg #[.int .i64 0, .slice none 0 0]), 2, 32) := by kernel_rfl
theorem ne_li : 81 ≠ 3 := by decide
def LnOk (w : World) (gs : List (List Rw)) (rs : List (Nat × Nat × Nat)) : Prop :=
  ∀ (i : Nat) (x : Nat × Nat × Nat) (g : List Rw), rs[i]? = some x → gs[i]? = some g → x.1 = (joinL (gs.take i)).length ∧ x.2.2 = g.length ∧ RN w x.2.1 g
theorem LnOk.past {w w' : World} {gs : List (List Rw)} {rs : List (Nat × Nat × Nat)} (h : LnOk w gs rs) (hb : Below w.heap.size w w') : LnOk w' gs rs := fun i x g hx hg =>
  ⟨(h i x g hx hg).1, (h i x g hx hg).2.1, (h i x g hx hg).2.2.past hb⟩
/-- Lines of one's own, as far as they are made. -/
def OL (B : Nat) (w : World) (v : Value) (gs : List (List Rw)) (k : Nat) : Prop :=
  ∃ rs : List (Nat × Nat × Nat), rs.length = k ∧ w.ownsRow B 81 2 v k (rowsV encLn rs) ∧ LnOk w gs rs
theorem OL.nil (B : Nat) (w : World) (gs : List (List Rw)) : OL B w (.slice none 0 0) gs 0 := ⟨[], rfl, World.ownsRow_nil _ _ _ _, fun i x g h => by simp at h⟩
/-- Lines that lie in memory. -/
def LNs (w : World) (A : Option Addr) (gs : List (List Rw)) : Prop := ∃ rs : List (Nat × Nat × Nat), rs.length = gs.length ∧ RK encLn 2 w A rs ∧ LnOk w gs rs
theorem LNs.past {w w' : World} {A : Option Addr} {gs : List (List Rw)} (h : LNs w A gs) (hb : Below w.heap.size w w') : LNs w' A gs := by
  obtain ⟨rs, h1, h2, h3⟩ := h
  exact ⟨rs, h1, h2.past hb, h3.past hb⟩
theorem newsLn (W : World) (x : Nat × Nat × Nat) (t : TypeId) : ∀ (j : Nat) (u : Value), (encLn x)[j]? = some u → (W.alloc (.cells #[.int .i64 (x.1 : Int), .slice (some ⟨x.2.1, 0, none⟩) (x.2.2 + 1) (x.2.2 + 1)] t)).cell? ((⟨W.heap.size, 0, none⟩ : Addr).add j) = some u := fun j u hj => by
  have hadd : ((⟨W.heap.size, 0, none⟩ : Addr).add j) = ⟨W.heap.size, j, none⟩ := by
    unfold Addr.add
    by_cases h1 : j = 0 <;> simp [h1]
  rw [hadd, cell_of_row _ _ j _ _ _ (heap_alloc_new W _), ← hj]
  simp [encLn]
set_option maxRecDepth 100000 in
set_option maxHeartbeats 8000000 in
theorem linesOf_any (A : Option Addr) (L : List Rw) (n c : Nat) (hn : n = L.length) (hl : n ≤ 10000000) (hc : n ≤ c) (hr : ∀ i, i < n → (Ar L i).c.length ≤ 1000000000) (hf : (flat L).length ≤ 1000000000) (w : World) (h : RR w A L) :
    Calls Try.prog 52 #[.slice A n c] w fun e w' => ∃ A' c', e = .returned (.slice A' (grp L).length c') ∧ LNs w' A' (grp L) ∧ Below w.heap.size w w' := by
  have HLI : Hid (Calls Try.prog 12 #[.slice A n c] w fun e w' => ∃ A' c', e = .returned (.slice A' (grp L).length c') ∧ RK encN 2 w' A' (offs 0 (grp L)) ∧ Below w.heap.size w w') := Lib.hid <| (lines_any A L n c hn (by omega) hc w h).mono fun e w' ⟨v, he, hb, ho⟩ => by
    obtain ⟨A', c', hv, _⟩ := own_formK ho
    subst hv
    exact ⟨A', c', he, RK.of_own encN_len ho (offs_len _ _).symm, hb⟩
  have HCO : Hid (∀ W b off c' s (g : List Rw), A = some ⟨b, off, none⟩ → Below w.heap.size w W → (L.take (s + g.length)).drop s = g → s + g.length ≤ n → Calls Try.prog 37 #[.slice (some ⟨b, off + s * 2, none⟩) g.length c'] W fun e w' => ∃ q, e = .returned (.slice (some ⟨q, 0, none⟩) (g.length + 1) (g.length + 1)) ∧ RN w' q g ∧ Below W.heap.size W w') := Lib.hid fun W b off c' s g hA hW hg hs => by
    subst hA
    have hR := ((h.past hW).take (s + g.length)).drop s
    rw [hg] at hR
    have hfl : (flat g).length ≤ (flat L).length := by
      have h1 := flat_take_le L (s + g.length)
      have h2 : (flat ((L.take (s + g.length)).drop s)).length ≤ (flat (L.take (s + g.length))).length := by
        conv => rhs; rw [← List.take_append_drop s (L.take (s + g.length)), flat_app]
        simp
      rw [hg] at h2
      omega
    refine (countOf_any _ g g.length c' rfl (by omega) (fun i hi => ?_) (by omega) W hR).mono fun e w' ⟨q, he, ho, hb⟩ => ⟨q, he, RN.of_own ho rfl, hb⟩
    have e1 : Ar g i = Ar L (s + i) := by
      rw [← hg, Ar_drop, Ar_take L _ _ (by omega)]
    rw [e1]
    exact hr (s + i) (by omega)
  have HJ : Hid (joinL (grp L) = L) := Lib.hid (grp_all L)
  have HNE : Hid (∀ g ∈ grp L, g ≠ []) := Lib.hid (grp_mem L)
  have HN := Lib.hid hn
  have HR := Lib.hid h
  have HC := Lib.hid hc
  have hgl : (grp L).length ≤ n := by
    have := lineAt_len (L := L) (a := L.length) (ps := offs 0 (grp L)) ⟨grp L, by rw [List.drop_length, grp_nil, List.append_nil], by rw [grp_all], rfl⟩
    rw [offs_len] at this
    omega
  obtain ⟨i0, hi0, hz0, hz1, hz2⟩ := info_parts infoLn
  clear h hn hr hf
  obtain ⟨m, hm⟩ : ∃ m, (grp L).length = m := ⟨_, rfl⟩
  have HM := Lib.hid hm
  rw [hm] at HLI hgl ⊢
  clear hm
  go_enter Try.func52, Try.ntmps52
  go_wp2_with (go_at_call 12; (with_reducible refine (HLI.out).mono ?_); rintro e w1 ⟨A7, c7, rfl, hrk, hb⟩; have HB1 := Lib.hid hb; have HRK := Lib.hid hrk; clear hb hrk)
  clear HLI
  go_loopw [3, 9] (fun v q wr => ∃ (k : Nat) (vo : Value), vo = v ∧ q = .int .i64 k ∧ k ≤ m ∧ Hid (OL w1.heap.size wr vo (grp L) k) ∧ Hid (Below w1.heap.size w1 wr)) (fun _ q _ => m - (intOf q).toNat)
  case atStart => exact ⟨0, _, rfl, rfl, Nat.zero_le _, Lib.hid (OL.nil _ _ _), Lib.hid (Below.refl _ _)⟩
  case round =>
    obtain ⟨k, vo, rfl, rfl, hk, HO, HB⟩ := hrel
    by_cases hlt : k < m
    · have hlti : (k : Int) < m := by omega
      obtain ⟨g, hg⟩ : ∃ g, (grp L)[k]? = some g := ⟨_, List.getElem?_eq_getElem (by rw [HM.out]; exact hlt)⟩
      have hgm : g ∈ grp L := List.mem_of_getElem? hg
      have hg0 : 0 < g.length := List.length_pos_iff.2 (HNE.out g hgm)
      have hog := offs_get 0 (grp L) k g hg
      have hjc := join_cut (grp L) k g hg
      have hjl := join_le (grp L) k g hg
      rw [HJ.out] at hjc hjl
      rw [Nat.zero_add] at hog
      have HG := Lib.hid hg
      obtain ⟨s, hs⟩ : ∃ s, (joinL ((grp L).take k)).length = s := ⟨_, rfl⟩
      have HS := Lib.hid hs
      rw [hs] at hog hjc hjl
      rw [← HN.out] at hjl
      obtain ⟨b7, off7, rfl, _, hcell⟩ := (HRK.out.past HB.out) (fun e => by rw [e] at hog; simp at hog)
      have c0 : wr.cell? ⟨b7, off7 + k * 2, none⟩ = some (.int .i64 (s : Int)) := hcell k _ hog 0 _ rfl
      have c1 : wr.cell? ⟨b7, off7 + k * 2 + 1, none⟩ = some (.int .i64 ((s + g.length : Nat) : Int)) := hcell k _ hog 1 _ rfl
      obtain ⟨b, off, rfl⟩ := HR.out.some (fun e => by have := HN.out; rw [e] at this; simp at this; omega)
      have HC1 := Lib.hid (fun W c' hW => HCO.out W b off c' s g rfl hW hjc hjl)
      obtain ⟨rs, hrs, hown, hok⟩ := HO.out
      obtain ⟨Ao, co, rfl, _⟩ := own_formK hown
      obtain ⟨gl, hgl2⟩ : ∃ gl, g.length = gl := ⟨_, rfl⟩
      have HGL := Lib.hid hgl2
      rw [hgl2] at c1 hjl hg0 HC1
      clear hcell hog hjc hgm hg hs hgl2
      have HX1 : Hid (∀ W w8 w5 v5 q, Below wr.heap.size wr W → Below W.heap.size W w8 → RN w8 q g → w5.ownsRow w1.heap.size 81 2 v5 (k + 1) (rowsV encLn rs ++ encLn (s, q, gl)) → (w8.alloc (.cells #[.int .i64 (s : Int), .slice (some ⟨q, 0, none⟩) (gl + 1) (gl + 1)] 81)).grownBy w5 (Value.slice Ao k co).ownBlock → OL w1.heap.size w5 v5 (grp L) (k + 1) ∧ Below w1.heap.size w1 w5) := Lib.hid fun W w8 w5 v5 q hW h8 hrn h5 hg5 => by
        have hb := bel0 hW h8
        have hoa := own_pastK hown (belA hb (.cells #[.int .i64 (s : Int), .slice (some ⟨q, 0, none⟩) (gl + 1) (gl + 1)] 81))
        refine ⟨⟨rs ++ [(s, q, gl)], by simp [hrs], by rw [rowsV_app]; simpa [rowsV] using h5, fun i x g' hx hg' => ?_⟩, own_below hoa (bel0 HB.out (belA hb _)) (bel0 HB.out (belA hb _)).size hg5⟩
        have hok' := hok.past (belA hb (.cells #[.int .i64 (s : Int), .slice (some ⟨q, 0, none⟩) (gl + 1) (gl + 1)] 81))
        by_cases hi : i < k
        · rw [List.getElem?_append_left (by omega)] at hx
          obtain ⟨e1, e2, e3⟩ := hok' i x g' hx hg'
          exact ⟨e1, e2, e3.grown hoa ne_li hg5⟩
        · have hlt2 := (List.getElem?_eq_some_iff.1 hx).1
          obtain rfl : i = k := by simp at hlt2; omega
          rw [← hrs, List.getElem?_concat_length] at hx
          rw [HG.out] at hg'
          cases hx; cases hg'
          exact ⟨HS.out.symm, HGL.out.symm, (hrn.past (belA (Below.refl _ _) _)).grown hoa ne_li hg5⟩
      have HOWN : Hid (∀ W, Below wr.heap.size wr W → W.ownsRow w1.heap.size 81 2 (.slice Ao k co) k (rowsV encLn rs)) := Lib.hid fun W hW => own_pastK hown hW
      clear hown hok hrs HO HG HS HGL HCO HNE HJ
      generalize rowsV encLn rs = os at HOWN HX1
      have hs1 : (s : Int) ≤ ((s + gl : Nat) : Int) := by omega
      have hs2 : ((s + gl : Nat) : Int) ≤ c := by omega
      have hs3 : ¬ (c = s) := by omega
      have hws := HB.out.size
      have hx := heap_alloc_new wr (.cells #[.int .i64 (s : Int), .int .i64 ((s + gl : Nat) : Int)] 27)
      have HBA := Lib.hid (belA (Below.refl wr.heap.size wr) (.cells #[.int .i64 (s : Int), .int .i64 ((s + gl : Nat) : Int)] 27))
      have hc8 := hc
      obtain ⟨t, ht⟩ : ∃ t, s + gl = t := ⟨_, rfl⟩
      have hgt : t - s = gl := by omega
      have hst : s ≤ t := by omega
      have htc : t ≤ c := by omega
      have hsti : (s : Int) ≤ t := by omega
      have htci : (t : Int) ≤ c := by omega
      rw [ht] at c1 hx HBA hjl
      clear ht hs1 hs2
      go_wp2_with fail
      generalize wr.alloc (.cells #[.int .i64 (s : Int), .int .i64 (t : Int)] 27) = wa at *
      have y0 := cell_of_row _ _ 0 _ _ _ hx
      have y1 := cell_of_row _ _ 1 _ _ _ hx
      have hwa := (Array.getElem?_eq_some_iff.1 hx).1
      have HBD : Hid (Below w.heap.size w wa.drew) := Lib.hid (bel0 HB1.out (bel0 HB.out (bel0 HBA.out (Below.refl wa.heap.size wa).drew)))
      have HBE : Hid (∀ w8, Below wa.drew.heap.size wa.drew w8 → Below wr.heap.size wr w8) := Lib.hid fun w8 h8 => bel0 HBA.out (belD h8)
      have hwas := HBA.out.size
      have HZC : Hid (∀ w8, Below wa.drew.heap.size wa.drew w8 → w8.cell? ⟨wr.heap.size, 0, none⟩ = some (.int .i64 (s : Int)) ∧ w8.cell? ⟨wr.heap.size, 1, none⟩ = some (.int .i64 (t : Int))) := Lib.hid fun w8 h8 => ⟨((belD h8).cell (p := ⟨wr.heap.size, 0, none⟩) hwa).trans y0, ((belD h8).cell (p := ⟨wr.heap.size, 1, none⟩) hwa).trans y1⟩
      clear hx c0 c1
      go_region_law (first
        | (go_simp; go_at_call 37; (with_reducible refine (HC1.out _ _ HBD.out).mono ?_); rintro e8 w8 ⟨q, rfl, hrn, hb8⟩; obtain ⟨z0, z1⟩ := HZC.out _ hb8; have hz8 := hb8.size; have HRN8 := Lib.hid hrn; have HB8 := Lib.hid (HBE.out _ hb8); clear hrn hb8)
        | ((refine step_append_own' rfl _ _ 78 rfl w1.heap.size 81 i0 _ 2 32 Try.underlying78 hi0 hz0 hz1 hz2 rfl (by decide) (.slice Ao k co) k os rfl (HOWN.out _ (belA HB8.out _)) ⟨w8.heap.size, 0, none⟩ 1 1 (encLn (s, q, gl)) rfl rfl (newsLn w8 (s, q, gl) _) (encLn_one _) (by unfold maxLen; omega) (by omega) (by simp at hz8 ⊢; omega) ?_); intro v5 w5 hown5 hgrow5; have HZ := Lib.hid (HX1.out _ _ _ _ _ (Below.refl _ _) HB8.out HRN8.out hown5 hgrow5); clear hown5 hgrow5))
      all_goals
        go_wp2
        go_roundw
        case rel => exact ⟨k + 1, _, rfl, by go_num, hlt, Lib.hid HZ.out.1, Lib.hid HZ.out.2⟩
        case measure => simp [intOf]; omega
    · obtain rfl : k = m := by omega
      have HE : Hid (∃ A' c', vo = .slice A' k c' ∧ LNs wr A' (grp L) ∧ Below w.heap.size w wr) := Lib.hid (by
        obtain ⟨rs, h1, h2, h3⟩ := HO.out
        obtain ⟨A', c', hv, _⟩ := own_formK h2
        subst hv
        exact ⟨A', c', rfl, ⟨rs, by rw [h1, HM.out], RK.of_own encLn_len h2 h1.symm, h3⟩, bel0 HB1.out HB.out⟩)
      obtain ⟨A', c', rfl, hE1, hE2⟩ := HE.out
      have HE1 := Lib.hid hE1
      have HE2 := Lib.hid hE2
      clear hE1 hE2 HE HO
      go_wp2
      go_ret
      exact ⟨A', c', rfl, HE1.out, HE2.out⟩
end Go.Proofs.Ytfjgfmeanehpmaa
