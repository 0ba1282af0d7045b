/- The walk of the document's Reflow, of a width that may be. Written by mklt.py. -/
import Derived.Test.YtfjgfmeanehpmaaLs
import Derived.Test.YtfjgfmeanehpmaaLq
import Derived.Test.YtfjgfmeanehpmaaHq
import Derived.Test.YtfjgfmeanehpmaaHz
import Derived.Deep.RegionHeld3
namespace Go.Proofs.Ytfjgfmeanehpmaa
open Go.RowKit

/-- Where the loop over the old rows is: the lines begun are the first k. -/
def LH (G : List (List Rw)) (k i : Nat) : Prop := i ≤ (joinL (G.take k)).length ∧ (k = 0 → i = 0) ∧ (∀ k', k = k' + 1 → (joinL (G.take k')).length < i)
theorem LH.start (G : List (List Rw)) : LH G 0 0 := ⟨Nat.zero_le _, fun _ => rfl, fun k' h => by omega⟩
theorem joinL_snoc (G : List (List Rw)) (k : Nat) (g : List Rw) (h : G[k]? = some g) : (joinL (G.take (k + 1))).length = (joinL (G.take k)).length + g.length := by
  rw [take_snocG G k g h, joinL_app, List.length_append]
  show _ + (g ++ []).length = _
  rw [List.append_nil]
/-- At a row where no line begins. -/
theorem LH.mid {G : List (List Rw)} {k i : Nat} (h : LH G k i) (hi : i < (joinL (G.take k)).length) (hk : k ≤ G.length) : LH G k (i + 1) ∧ ∃ j g, G[j]? = some g ∧ (joinL (G.take j)).length < i ∧ i < (joinL (G.take j)).length + g.length := by
  obtain ⟨h1, h2, h3⟩ := h
  cases k with
  | zero => simp [joinL] at hi
  | succ k =>
    have hlt : k < G.length := by omega
    have hg := List.getElem?_eq_getElem hlt
    have e := joinL_snoc G k _ hg
    refine ⟨⟨by omega, fun h => by omega, fun k' h => ?_⟩, k, _, hg, h3 k rfl, by omega⟩
    obtain rfl : k = k' := by omega
    have := h3 k rfl
    omega
/-- At a row where a line begins. -/
theorem LH.next {G : List (List Rw)} {k i : Nat} {g : List Rw} (hg : G[k]? = some g) (hi : i = (joinL (G.take k)).length) (hgl : 0 < g.length) : LH G (k + 1) (i + 1) := by
  have e := joinL_snoc G k g hg
  refine ⟨by omega, fun h => by omega, fun k' h => ?_⟩
  obtain rfl : k = k' := by omega
  omega
theorem LH.more {G : List (List Rw)} {k i : Nat} (hi : i = (joinL (G.take k)).length) (hlt : i < (joinL G).length) : ∃ g, G[k]? = some g := by
  rcases Nat.lt_or_ge k G.length with h | h
  · exact ⟨_, List.getElem?_eq_getElem h⟩
  · rw [List.take_of_length_le h] at hi; omega
theorem LH.over {G : List (List Rw)} (hne : ∀ g ∈ G, g ≠ []) {k i : Nat} (h : LH G k i) (hi : i = (joinL G).length) (hk : k ≤ G.length) : k = G.length := by
  rcases Nat.lt_or_ge k G.length with hlt | h'
  · have hg := List.getElem?_eq_getElem hlt
    have e := join_le G k _ hg
    have hl := List.length_pos_iff.2 (hne _ (List.getElem_mem hlt))
    have := h.1
    omega
  · omega
theorem infoIntR : (Try.prog.info? 3).map (fun i => (i.zero, i.size, i.bytes)) = some (some (.int .i64 0), 1, 8) := by kernel_rfl
theorem infoPosR : (Try.prog.info? 39).map (fun i => (i.zero, i.size, i.bytes)) = some (some (.agg #[.int .i64 0, .int .i64 0]), 2, 16) := by kernel_rfl
theorem news2R (W : World) (a b : Value) (t : TypeId) : ∀ (j : Nat) (u : Value), [a, b][j]? = some u → (W.alloc (.cells #[a, b] t)).cell? ((⟨W.heap.size, 0, none⟩ : Addr).add j) = some u := fun j u hj => by
  have hadd : ((⟨W.heap.size, 0, none⟩ : Addr).add j) = ⟨W.heap.size, j, none⟩ := by
    unfold Addr.add
    by_cases h1 : j = 0 <;> simp [h1]
  rw [hadd, cell_of_row _ _ j _ _ _ (heap_alloc_new W _), ← hj]
  simp
theorem two_set {W : World} {Q : Nat} {a b : Value} {t : TypeId} (h : W.heap[Q]? = some (.cells #[a, b] t (0, 0))) (x y : Value) : ((W.setCell ⟨Q, 0, none⟩ x).setCell ⟨Q, 1, none⟩ y).heap[Q]? = some (.cells #[x, y] t (0, 0)) := by
  have h1 := heap_setCell_same W Q 0 _ t x h
  have h2 := heap_setCell_same (W.setCell ⟨Q, 0, none⟩ x) Q 1 _ t y h1
  rw [h2]
  rfl
/-- A box of two numbers. -/
def B2 (bx : Nat) (a b : Int) (W : World) : Prop := W.heap[bx]? = some (.cells #[.int .i64 a, .int .i64 b] 39 (0, 0))
theorem B2.past {bx : Nat} {a b : Int} {W W' : World} (h : B2 bx a b W) (hb : Below W.heap.size W W') : B2 bx a b W' := (hb.block bx (Array.getElem?_eq_some_iff.1 h).1).trans h
theorem B2.cells {bx : Nat} {a b : Int} {W : World} (h : B2 bx a b W) : W.cell? ⟨bx, 0, none⟩ = some (.int .i64 a) ∧ W.cell? ⟨bx, 1, none⟩ = some (.int .i64 b) := ⟨cell_of_row _ _ 0 _ _ _ h, cell_of_row _ _ 1 _ _ _ h⟩
theorem c4_step {wr W W' : World} {a1 a2 a3 a4 : Addr} {v1 v2 v3 v4 : Value} (h : (W.cell? a1 = some v1 ∧ W.cell? a2 = some v2 ∧ W.cell? a3 = some v3 ∧ W.cell? a4 = some v4) ∧ Below wr.heap.size wr W) (hb : Below W.heap.size W W') :
    (W'.cell? a1 = some v1 ∧ W'.cell? a2 = some v2 ∧ W'.cell? a3 = some v3 ∧ W'.cell? a4 = some v4) ∧ Below wr.heap.size wr W' :=
  ⟨⟨(hb.cell (World.block_lt_of_cell? W a1 h.1.1)).trans h.1.1, (hb.cell (World.block_lt_of_cell? W a2 h.1.2.1)).trans h.1.2.1, (hb.cell (World.block_lt_of_cell? W a3 h.1.2.2.1)).trans h.1.2.2.1, (hb.cell (World.block_lt_of_cell? W a4 h.1.2.2.2)).trans h.1.2.2.2⟩, bel0 h.2 hb⟩
theorem rowsV_snoc2 {ps : List (Int × Int)} {t : Nat} {p : Int × Int} (h : ps[t]? = some p) : rowsV encPI (ps.take (t + 1)) = rowsV encPI (ps.take t) ++ encPI p := by
  obtain ⟨hk, e⟩ := List.getElem?_eq_some_iff.1 h
  rw [List.take_succ_eq_append_getElem hk, e, rowsV_app]
  simp [rowsV]
theorem repl_snoc (bs : List Nat) (d x : Nat) : bs ++ List.replicate (d + 1) x = (bs ++ List.replicate d x) ++ [x] := by
  rw [List.replicate_succ', List.append_assoc]

set_option maxRecDepth 100000 in
set_option maxHeartbeats 16000000 in
theorem refReflow_any (A Al : Option Addr) (L : List Rw) (n c m nl cl : Nat) (ps : List (Int × Int)) (hn : n = L.length) (hc : n ≤ c) (h2 : 2 ≤ m) (hm : m ≤ 1000) (hr : ∀ i, i < n → (Ar L i).c.length ≤ 1000000) (hf : (flat L).length ≤ 100000) (hl : n ≤ 1000) (hrl : (reflowL m L).length ≤ 1000000) (hr' : ∀ i, i < (reflowL m L).length → (Ar (reflowL m L) i).c.length ≤ 1000000) (hf' : (flat (reflowL m L)).length ≤ 1000000000)
    (hnl : nl = ps.length) (hll : nl ≤ 1000) (w : World) (h : RR w A L) (hp : RK encPI 2 w Al ps) :
    Calls Try.prog 26 #[.slice A n c, .int .i64 m, .slice Al nl cl] w fun e w' => ∃ A' c' A2 c2, e = .returned (.tuple #[.slice A' (reflowL m L).length c', .slice A2 nl c2]) ∧ (reflowL m L).length ≤ c' ∧ RR w' A' (reflowL m L) ∧ RK encPI 2 w' A2 (ps.map fun p => (((movedP m L p.1 p.2).1 : Int), ((movedP m L p.1 p.2).2 : Int))) ∧ Below w.heap.size w w' := by
  have hF := fun W => Lib.hid (fits_any (m : Int) W)
  rw [decide_eq_true (show (2 : Int) ≤ m ∧ (m : Int) ≤ 1000 by omega)] at hF
  have HLN : Hid (∀ W k z, k < n → lineOf L k = z → Below w.heap.size w W → Calls Try.prog 13 #[.slice A n c, .int .i64 k] W fun e w' => e = .returned (.int .i64 z) ∧ Below W.heap.size W w') := Lib.hid fun W k z hk hz hW => by
    subst hz; exact line_any A L n c k hn (by omega) hk W (h.past hW)
  have HFL : Hid (∀ W b off c' s (g : List Rw), A = some ⟨b, off, none⟩ → Below w.heap.size w W → (L.take (s + g.length)).drop s = g → s + g.length ≤ n → (flat g).length ≤ 100000 ∧ Calls Try.prog 16 #[.slice (some ⟨b, off + s * 2, none⟩) g.length c'] W fun e w' => ∃ A2 n2 c2, e = .returned (.slice A2 n2 c2) ∧ n2 = (flowL g).length ∧ RC w' w'.heap.size A2 (flowL g) ∧ Below W.heap.size W w') := Lib.hid fun W b off c' s g hA hW hg hs => by
    subst hA
    have hR := ((h.past hW).take (s + g.length)).drop s
    rw [hg] at hR
    have hfl : (flat g).length ≤ (flat L).length := by
      have h1 := flat_take_le L (s + g.length)
      have h2 : (flat ((L.take (s + g.length)).drop s)).length ≤ (flat (L.take (s + g.length))).length := by
        conv => rhs; rw [← List.take_append_drop s (L.take (s + g.length)), flat_app]
        simp
      rw [hg] at h2
      omega
    refine ⟨by omega, (refFlow_any _ g g.length c' rfl (by omega) (fun i hi => ?_) (by omega) W hR).mono fun e w' ⟨v, he, ho, hb⟩ => ?_⟩
    · have e1 : Ar g i = Ar L (s + i) := by
        rw [← hg, Ar_drop, Ar_take L _ _ (by omega)]
      rw [e1]
      have := hr (s + i) (by omega)
      omega
    · obtain ⟨A2, c2, hv, _, hrc⟩ := ho.form'
      subst hv
      exact ⟨A2, _, c2, he, rfl, hrc, hb⟩
  have HSP : Hid (∀ W A2 n2 c2 (f : List CC), n2 = f.length → n2 ≤ 100000 → RC W W.heap.size A2 f → Calls Try.prog 20 #[.slice A2 n2 c2, .int .i64 m] W fun e w' => ∃ Am sm cm, e = .returned (.slice Am sm cm) ∧ sm = (splitL m f).length ∧ sm ≤ 100001 ∧ ORW W.heap.size w' (.slice Am sm cm) (splitL m f) ∧ Below W.heap.size W w') := Lib.hid fun W A2 n2 c2 f h1 h3 hR => (refSplit_any A2 f n2 c2 m h1 h2 hm h3 W hR).mono fun e w' ⟨v, he, ho, hb⟩ => by
    obtain ⟨Am, cm, hv, _⟩ := ho.form
    have hle := (lay_rows m h2 f).2
    subst hv
    exact ⟨Am, _, cm, he, rfl, by omega, ho, hb⟩
  have HJ : Hid (joinL (grp L) = L) := Lib.hid (grp_all L)
  have HNE : Hid (∀ g ∈ grp L, g ≠ []) := Lib.hid (grp_mem L)
  have HN := Lib.hid hn
  have HR := Lib.hid h
  have HP := Lib.hid hp
  have HNL := Lib.hid hnl
  have HRL := Lib.hid hrl
  have HJT : Hid (∀ k, (joinS m ((grp L).take k)).length ≤ 1000000) := Lib.hid fun k => by
    have h1 := joinS_take_len m h2 (grp L) k
    rw [grp_all] at h1
    have h3 : (grp L).length ≤ L.length := by
      have := begL_len m (grp L) 0
      have h4 : (grp L).length ≤ (joinL (grp L)).length := grp_len_le (grp L) (grp_mem L)
      rwa [grp_all] at h4
    omega
  obtain ⟨i0, hi0, hz0, hz1, hz2⟩ := info_parts infoRow
  obtain ⟨i1, hi1, hy0, hy1, hy2⟩ := info_parts infoIntR
  obtain ⟨i3, hi3, hx0, hx1, hx2⟩ := info_parts infoPosR
  have HPL : Hid (∀ (W W' : World) (pz : List (Int × Int)), True) := Lib.hid fun _ _ _ => trivial
  have HOF : Hid (∀ W b off c' s (g : List Rw) (rr : Nat) (cc : Int), A = some ⟨b, off, none⟩ → Below w.heap.size w W → (L.take (s + g.length)).drop s = g → s + g.length ≤ n → g.length ≤ c' → Calls Try.prog 22 #[.slice (some ⟨b, off + s * 2, none⟩) g.length c', .agg #[.int .i64 (rr : Int), .int .i64 cc]] W fun e w' => e = .returned (.int .i64 (offR g rr cc : Nat)) ∧ Below W.heap.size W w') := Lib.hid fun W b off c' s g rr cc hA hW hg hs hgc => by
    subst hA
    have hR := ((h.past hW).take (s + g.length)).drop s
    rw [hg] at hR
    have hfl : (flat g).length ≤ (flat L).length := by
      have h1 := flat_take_le L (s + g.length)
      have h2 : (flat ((L.take (s + g.length)).drop s)).length ≤ (flat (L.take (s + g.length))).length := by
        conv => rhs; rw [← List.take_append_drop s (L.take (s + g.length)), flat_app]
        simp
      rw [hg] at h2
      omega
    have hz := refOffset_any _ g g.length c' (rr : Int) cc rfl (by omega) hgc (fun i hi => by
      have e1 : Ar g i = Ar L (s + i) := by rw [← hg, Ar_drop, Ar_take L _ _ (by omega)]
      rw [e1]
      have := hr (s + i) (by omega)
      omega) (by omega) W hR
    rwa [show offZ g (rr : Int) cc = offR g rr cc by unfold offZ; rw [if_neg (by omega), Int.toNat_natCast]] at hz
  have HPLC : Hid (∀ W g3 o3 c' j (g : List Rw) (off : Nat), RR W (some ⟨g3, o3, none⟩) (reflowL m L) → (grp L)[j]? = some g → off ≤ 1000000000 → (newL m g).length ≤ c' → Calls Try.prog 24 #[.slice (some ⟨g3, o3 + (joinS m ((grp L).take j)).length * 2, none⟩) (newL m g).length c', .int .i64 (off : Int)] W fun e w' => e = .returned (.agg #[.int .i64 ((placeR (newL m g) off).1 : Nat), .int .i64 ((placeR (newL m g) off).2 : Nat)]) ∧ Below W.heap.size W w') := Lib.hid fun W g3 o3 c' j g off hR hg hoff hgc => by
    have hcut := new_cut m (grp L) j g hg
    have hle := new_le m (grp L) j g hg
    have hR2 := (hR.take ((joinS m ((grp L).take j)).length + (newL m g).length)).drop (joinS m ((grp L).take j)).length
    rw [show reflowL m L = joinS m (grp L) from rfl, hcut] at hR2
    have hflr : (flat (newL m g)).length ≤ (flat (reflowL m L)).length := by
      have h1 := flat_take_le (reflowL m L) ((joinS m ((grp L).take j)).length + (newL m g).length)
      have h2 : (flat (newL m g)).length ≤ (flat ((reflowL m L).take ((joinS m ((grp L).take j)).length + (newL m g).length))).length := by
        conv => rhs; rw [← List.take_append_drop (joinS m ((grp L).take j)).length ((reflowL m L).take ((joinS m ((grp L).take j)).length + (newL m g).length)), flat_app]
        rw [show ((reflowL m L).take ((joinS m ((grp L).take j)).length + (newL m g).length)).drop (joinS m ((grp L).take j)).length = newL m g from hcut]
        simp
      omega
    have hle2 : (joinS m ((grp L).take j)).length + (newL m g).length ≤ (reflowL m L).length := hle
    have hz := refPlace_any _ (newL m g) (newL m g).length c' (off : Int) (by omega) rfl (by omega) hgc (fun i hi => by
      have e1 : Ar (newL m g) i = Ar (reflowL m L) ((joinS m ((grp L).take j)).length + i) := by
        conv => lhs; rw [← hcut]
        rw [Ar_drop, Ar_take _ _ _ (by omega)]
        rfl
      rw [e1]
      have := hr' ((joinS m ((grp L).take j)).length + i) (by omega)
      omega) (by omega) W hR2
    rwa [show placeZ (newL m g) (off : Int) = placeR (newL m g) off by unfold placeZ; rw [Int.toNat_natCast]] at hz
  have HHR := Lib.hid hr
  clear h hn hr hf hp hnl hr' hf' HPL
  go_enter Try.func26, Try.ntmps26
  go_wp2_with (go_at_call 18; (with_reducible refine ((hF _).out).mono ?_); rintro e w4 ⟨rfl, rfl⟩)
  go_loopw [8, 9, 10, 11] (fun vo vb ve q wr => ∃ (i k : Nat) (vo' vb' ve' : Value), vo' = vo ∧ vb' = vb ∧ ve' = ve ∧ q = .int .i64 i ∧ i ≤ n ∧ Hid (k ≤ (grp L).length ∧ LH (grp L) k i) ∧ Hid (PH w.heap.size wr vo' vb' ve' (joinS m ((grp L).take k)) (begL m 0 ((grp L).take k)) (endL m 0 ((grp L).take k))) ∧ Hid (Below w.heap.size w wr)) (fun _ _ _ q _ => n - (intOf q).toNat)
  case atStart => exact ⟨0, 0, _, _, _, rfl, rfl, rfl, rfl, Nat.zero_le _, Lib.hid ⟨Nat.zero_le _, LH.start _⟩, Lib.hid (PH.start w), Lib.hid (Below.refl _ _)⟩
  case round =>
    obtain ⟨i, k, vo, vb, ve, rfl, rfl, rfl, rfl, hi, HK, HPH, HB⟩ := hrel
    obtain ⟨Ao, co, rfl, _⟩ := HPH.out.out.form
    obtain ⟨Ab, cb, rfl, _⟩ := own_formK HPH.out.b
    obtain ⟨Ae, ce, rfl, _⟩ := own_formK HPH.out.e
    by_cases hlt : i < n
    · have hlti : (i : Int) < n := by omega
      by_cases hs : i = (joinL ((grp L).take k)).length
      · obtain ⟨g, hg⟩ := LH.more hs (by rw [HJ.out]; have := HN.out; omega)
        have hg0 : 0 < g.length := List.length_pos_iff.2 (HNE.out g (List.mem_of_getElem? hg))
        have hkm : k < (grp L).length := (List.getElem?_eq_some_iff.1 hg).1
        obtain ⟨r1, r2, r3⟩ := grp_rows L.length L (Nat.le_refl _) k g hg
        have hjc := join_cut (grp L) k g hg
        have hjl := join_le (grp L) k g hg
        rw [HJ.out] at hjc hjl
        rw [← hs] at r1 r2 r3 hjc hjl
        rw [← HN.out] at hjl r3
        have hln : lineOf L i = i := by
          have := line_at L k g hg i (by omega) (by omega)
          omega
        have HL1 := Lib.hid (fun W hW => HLN.out W i i hlt hln hW)
        have hnx := LH.next hg hs hg0
        obtain ⟨b, off, rfl⟩ := HR.out.some (fun e => by have := HN.out; rw [e] at this; simp at this; omega)
        have HF1 := Lib.hid (fun W c' hW => HFL.out W b off c' i g rfl hW hjc hjl)
        have HF0 := Lib.hid (Nat.le_trans (flowL_len g) (HFL.out w b off c i g rfl (Below.refl _ _) hjc hjl).1)
        have HCK : Hid (∀ W j, Below w.heap.size w W → j < n → W.cell? ⟨b, off + j * 2 + 1, none⟩ = some (.bool (Ar L j).k)) := Lib.hid fun W j hW hj => by
          obtain ⟨b', off', e, hl', hc'⟩ := (HR.out.past hW) (fun e => by have := HN.out; rw [e] at this; simp at this; omega)
          injection e with e
          injection e with e1 e2 _
          subst e1; subst e2
          obtain ⟨Ai, ci, _, q2, _⟩ := hc' j (by have := HN.out; omega)
          exact q2
        have HSN := Lib.hid (joinS_snoc m (grp L) k g hg)
        have HSB := Lib.hid (begL_snoc m (grp L) k g hg)
        have HSE := Lib.hid (endL_snoc m (grp L) k g hg)
        obtain ⟨na, hna⟩ : ∃ na, (joinS m ((grp L).take k)).length = na := ⟨_, rfl⟩
        have HJK := Lib.hid (HJT.out (k + 1))
        have hna1 : na ≤ 1000000 := by rw [← hna]; exact HJT.out k
        rw [hna] at HSB HSE
        obtain ⟨t, ht⟩ : ∃ t, i + g.length = t := ⟨_, rfl⟩
        rw [ht] at r1 r3 hjl
        obtain ⟨gl, hgl⟩ : ∃ gl, g.length = gl := ⟨_, rfl⟩
        rw [hgl] at hg0 ht HF1 HSB HSE
        have hti : i + 1 ≤ t := by omega
        have hbl := begL_len m ((grp L).take k) 0
        have hel := endL_len m ((grp L).take k) 0
        rw [← hs] at hbl hel
        have HKN : Hid (k + 1 ≤ (grp L).length ∧ LH (grp L) (k + 1) (i + 1)) := Lib.hid ⟨hkm, hnx⟩
        have HR1 := Lib.hid r1
        have HR3 := Lib.hid r3
        generalize joinS m ((grp L).take k) = M at *
        generalize begL m 0 ((grp L).take k) = bs at *
        generalize endL m 0 ((grp L).take k) = es at *
        clear r1 r2 r3 hjc hg hs hln hnx hkm HK
        have HBR := Lib.hid HB.out.size
        go_wp2_with (go_at_call 13; (with_reducible refine (HL1.out _ HB.out).mono ?_); rintro e w1 ⟨rfl, hb⟩; have HB1 := Lib.hid (bel0 HB.out hb); have HP1 := Lib.hid (HPH.out.past hb); clear hb)
        clear HB HPH HBR
        go_loopw [12] (fun q wr2 => ∃ j : Nat, q = .int .i64 j ∧ i + 1 ≤ j ∧ j ≤ t ∧ w1 = wr2) (fun q _ => t - (intOf q).toNat)
        case atStart => exact ⟨i + 1, by go_num, Nat.le_refl _, hti, by trivial⟩
        case round =>
          obtain ⟨j, rfl, hij, hjt, rfl⟩ := hrel
          by_cases hj : j < t
          · have hjn : (j : Int) < n := by omega
            have hcj := HCK.out _ j HB1.out (by omega)
            rw [HR1.out j (by omega) hj] at hcj
            go_wp2
            go_roundw
            case rel => exact ⟨j + 1, by go_num, by omega, hj, by trivial⟩
            case measure => simp [intOf]; omega
          · obtain rfl : j = t := by omega
            have hnl4 : j - i = gl := by omega
            have HXS : Hid (∀ w8 w9 (vm : Value), ORW w8.heap.size w9 vm (splitL m (flowL g)) → Below w1.heap.size w1 w8 → Below w8.heap.size w8 w9 → PH w.heap.size w9 (.slice Ao na co) (.slice Ab i cb) (.slice Ae i ce) M bs es ∧ ORW w.heap.size w9 vm (newL m g) ∧ Below w.heap.size w w9) := Lib.hid fun w8 w9 vm ho h8 h9 =>
              ⟨by have := HP1.out.past (bel0 h8 h9); rwa [hna, hbl, hel] at this, ho.more (Nat.le_trans HB1.out.size h8.size), bel0 HB1.out (bel0 h8 h9)⟩
            have hck : (j = n ∧ ¬ ((j : Int) < n)) ∨ (j < n ∧ (j : Int) < n ∧ w1.cell? ⟨b, off + j * 2 + 1, none⟩ = some (.bool false)) := by
              rcases Nat.lt_or_ge j n with hjn | hjn
              · have hcj := HCK.out _ j HB1.out hjn
                rw [HR3.out hjn] at hcj
                exact .inr ⟨hjn, by omega, hcj⟩
              · exact .inl ⟨by omega, by omega⟩
            have hjli : (j : Int) ≤ n := by omega
            have hij2 : (i : Int) ≤ j := by omega
            have hjc2 : j ≤ c := by omega
            have hjci : (j : Int) ≤ c := by omega
            have hic : ¬ (c = i) := by omega
            clear HL1 HP1 hij hjt hj
            rcases hck with ⟨rfl, hck1⟩ | ⟨hjn, hck1, hck2⟩
            all_goals
              go_wp2_with (first
                | (go_at_call 16; (with_reducible refine ((HF1.out _ _ HB1.out).2).mono ?_); rintro e w8 ⟨A2, n2, c2, rfl, hn2, hrc, hb⟩; have HN2 := Lib.hid hn2; have HRC2 := Lib.hid hrc; have HB8 := Lib.hid hb; clear hn2 hrc hb)
                | (go_at_call 20; (with_reducible refine (HSP.out _ _ _ _ _ HN2.out (HN2.out ▸ HF0.out) HRC2.out).mono ?_); rintro e w9 ⟨Am, sm, cm, rfl, hsm, hsl, ho, hb⟩; obtain ⟨hq1, hq2, hq3⟩ := HXS.out _ _ _ ho HB8.out hb; have HSM := Lib.hid hsm; have HP9 := Lib.hid hq1; have HO9 := Lib.hid hq2; have HB9 := Lib.hid hq3; clear hsm ho hb hq1 hq2 hq3))
              clear HXS HN2 HRC2 HB8
              have HSUM : Hid ((joinS m ((grp L).take (k + 1))).length = na + sm) := Lib.hid (by rw [HSN.out, List.length_append, hna, HSM.out]; rfl)
              have hsum : na + sm ≤ 1000000 := by have h1 := HSUM.out; have h2 := HJK.out; omega
              go_loopw [9, 10, 14] (fun vb ve q wr => ∃ (d : Nat) (vb' ve' : Value), vb' = vb ∧ ve' = ve ∧ q = .int .i64 (i + d : Nat) ∧ d ≤ gl ∧ Hid (PH w.heap.size wr (.slice Ao na co) vb' ve' M (bs ++ List.replicate d na) (es ++ List.replicate d (na + sm)) ∧ ORW w.heap.size wr (.slice Am sm cm) (newL m g)) ∧ Hid (Below w.heap.size w wr)) (fun _ _ q _ => i + gl - (intOf q).toNat)
              case atStart => exact ⟨0, _, _, rfl, rfl, by go_num, Nat.zero_le _, Lib.hid ⟨by simpa using HP9.out, HO9.out⟩, HB9⟩
              case round =>
                obtain ⟨d, vb, ve, rfl, rfl, rfl, hd, HPO, HB⟩ := hrel
                clear HP9 HO9 HB9
                obtain ⟨Ab, cb, rfl, _⟩ := own_formK HPO.out.1.b
                obtain ⟨Ae, ce, rfl, _⟩ := own_formK HPO.out.1.e
                by_cases hdl : d < gl
                · have hdi : ((i + d : Nat) : Int) < j := by omega
                  have hlb : (bs ++ List.replicate d na).length = i + d := by rw [List.length_append, List.length_replicate, hbl]
                  have hle : (es ++ List.replicate d (na + sm)).length = i + d := by rw [List.length_append, List.length_replicate, hel]
                  have HSB1 := Lib.hid (repl_snoc bs d na)
                  have HSE1 := Lib.hid (repl_snoc es d (na + sm))
                  generalize bs ++ List.replicate d na = lb at *
                  generalize es ++ List.replicate d (na + sm) = le at *
                  have hws := HB.out.size
                  have hpo := HPO.out
                  rw [hlb, hle] at hpo
                  have HA := Lib.hid (belA (Below.refl wr.heap.size wr) (.cells #[.int .i64 (na : Int)] 3))
                  have HOB : Hid ((wr.alloc (.cells #[.int .i64 (na : Int)] 3)).ownsRow w.heap.size 3 1 (.slice Ab (i + d) cb) (i + d) (intsV lb)) := Lib.hid (by have := own_pastK hpo.1.b HA.out; rwa [hlb] at this)
                  have HPB : Hid (∀ v5 w5, w5.ownsRow w.heap.size 3 1 v5 (i + d + 1) (intsV lb ++ [.int .i64 (na : Int)]) → (wr.alloc (.cells #[.int .i64 (na : Int)] 3)).grownBy w5 (Value.slice Ab (i + d) cb).ownBlock → (v5.ownBlock = (Value.slice Ab (i + d) cb).ownBlock ∨ v5.ownBlock = some (wr.alloc (.cells #[.int .i64 (na : Int)] 3)).heap.size) → (PH w.heap.size w5 (.slice Ao na co) v5 (.slice Ae (i + d) ce) M (lb ++ [na]) le ∧ ORW w.heap.size w5 (.slice Am sm cm) (newL m g)) ∧ Below w.heap.size w w5) := Lib.hid fun v5 w5 h5 hg5 hat5 => by
                    have h1 := (hpo.1.past HA.out).pushB (x := na) (by rw [hlb]; exact h5) hg5 hat5
                    exact ⟨⟨h1.1, (hpo.2.past HA.out).beside HOB.out ne_ir ne_ic hg5⟩, own_below HOB.out (bel0 HB.out HA.out) (Nat.le_trans hws HA.out.size) hg5⟩
                  have HPE : Hid (∀ vb5 w5 v6 w6, (PH w.heap.size w5 (.slice Ao na co) vb5 (.slice Ae (i + d) ce) M (lb ++ [na]) le ∧ ORW w.heap.size w5 (.slice Am sm cm) (newL m g)) ∧ Below w.heap.size w w5 → w6.ownsRow w.heap.size 3 1 v6 (i + d + 1) (intsV le ++ [.int .i64 ((na : Int) + (sm : Int))]) → (w5.alloc (.cells #[.int .i64 ((na : Int) + (sm : Int))] 3)).grownBy w6 (Value.slice Ae (i + d) ce).ownBlock → (v6.ownBlock = (Value.slice Ae (i + d) ce).ownBlock ∨ v6.ownBlock = some (w5.alloc (.cells #[.int .i64 ((na : Int) + (sm : Int))] 3)).heap.size) → (PH w.heap.size w6 (.slice Ao na co) vb5 v6 M (lb ++ [na]) (le ++ [na + sm]) ∧ ORW w.heap.size w6 (.slice Am sm cm) (newL m g)) ∧ Below w.heap.size w w6) := Lib.hid fun vb5 w5 v6 w6 hz h6 hg6 hat6 => by
                    have hA5 := belA (Below.refl w5.heap.size w5) (.cells #[.int .i64 ((na : Int) + (sm : Int))] 3)
                    have h1 := (hz.1.1.past hA5).pushE (x := na + sm) (by rw [hle]; exact_mod_cast h6) hg6 hat6
                    have ho := own_pastK hz.1.1.e hA5
                    exact ⟨⟨h1.1, (hz.1.2.past hA5).beside ho ne_ir ne_ic hg6⟩, own_below ho (bel0 hz.2 hA5) (Nat.le_trans hz.2.size hA5.size) hg6⟩
                  have HOE : Hid (∀ vb5 w5, (PH w.heap.size w5 (.slice Ao na co) vb5 (.slice Ae (i + d) ce) M (lb ++ [na]) le ∧ ORW w.heap.size w5 (.slice Am sm cm) (newL m g)) ∧ Below w.heap.size w w5 → (w5.alloc (.cells #[.int .i64 ((na : Int) + (sm : Int))] 3)).ownsRow w.heap.size 3 1 (.slice Ae (i + d) ce) (i + d) (intsV le) ∧ w.heap.size ≤ w5.heap.size) := Lib.hid fun vb5 w5 hz => ⟨by have := own_pastK hz.1.1.e (belA (Below.refl w5.heap.size w5) (.cells #[.int .i64 ((na : Int) + (sm : Int))] 3)); rwa [hle] at this, hz.2.size⟩
                  rw [hlb, hle]
                  clear hpo HPO HB hlb hle
                  generalize intsV lb = ib at *
                  generalize intsV le = ie at *
                  have hnb : i + d ≤ 1000 := by omega
                  obtain ⟨nb, hnbe⟩ : ∃ nb, i + d = nb := ⟨_, rfl⟩
                  have hnb1 : i + (d + 1) = nb + 1 := by omega
                  have hmw : i + gl - nb - 1 < i + gl - nb := by omega
                  rw [hnbe] at HOB HPB HPE HOE hnb hdi ⊢
                  go_wp2_with (first
                    | (at_builtin; (refine wpList_append_own_at _ rfl _ _ 64 rfl w.heap.size 3 i1 (.int .i64 0) 1 8 Try.underlying64 hi1 hy0 hy1 hy2 rfl (by decide) (.slice Ab nb cb) nb ib rfl HOB.out ⟨wr.heap.size, 0, none⟩ 1 1 [.int .i64 (na : Int)] rfl rfl (cell_one_new _ _ _) (by simp [Value.oneCell']) (by unfold maxLen; omega) (by omega) (by simp; omega) ?_; intro v5 w5 hown5 hgrow5 _ hat5; have HZ5 := Lib.hid (HPB.out _ _ hown5 hgrow5 hat5); clear hown5 hgrow5 hat5))
                    | (at_builtin; go_must (refine wpList_append_own_at _ rfl _ _ 64 rfl w.heap.size 3 i1 (.int .i64 0) 1 8 Try.underlying64 hi1 hy0 hy1 hy2 rfl (by decide) (.slice Ae nb ce) nb ie rfl (HOE.out _ _ HZ5.out).1 ⟨w5.heap.size, 0, none⟩ 1 1 [.int .i64 ((na : Int) + (sm : Int))] rfl rfl (cell_one_new _ _ _) (by simp [Value.oneCell']) (by unfold maxLen; omega) (by omega) (by have := (HOE.out _ _ HZ5.out).2; simp; omega) ?_; intro v6 w6 hown6 hgrow6 _ hat6; have HZ6 := Lib.hid (HPE.out _ _ _ _ HZ5.out hown6 hgrow6 hat6); clear hown6 hgrow6 hat6)))
                  go_roundw
                  case rel => exact ⟨d + 1, _, _, rfl, rfl, by rw [hnb1]; go_num, hdl, Lib.hid (by rw [HSB1.out, HSE1.out]; exact HZ6.out.1), Lib.hid HZ6.out.2⟩
                  case measure => simp [intOf]; omega
                · obtain rfl : d = gl := by omega
                  have hdi : ¬ (((i + d : Nat) : Int) < j) := by omega
                  have hpo := HPO.out
                  obtain ⟨raw, k1, k2, k3⟩ := hpo.1.out
                  obtain ⟨rawN, l1, l2, l3⟩ := hpo.2
                  have hpos : 0 < (newL m g).length := List.length_pos_iff.2 (newL_ne m g)
                  have hsmn : (newL m g).length = sm := HSM.out.symm
                  obtain ⟨g3, c3, hv, _, _⟩ := l2.form hpos
                  injection hv with hv1 hv2 hv3
                  subst hv1; subst hv3
                  have HCL := Lib.hid (l2.cells (g := g3) (by simp [Value.ownBlock]))
                  have HRL : Hid ((rowsV encW rawN).length = sm * 2) := Lib.hid (by rw [rowsV_len _ 2 encW_len, l1, hsmn])
                  have HON := Lib.hid (rowsV_one encW encW_one rawN)
                  have HOWN : Hid (wr.ownsRow w.heap.size 31 2 (.slice Ao na co) na (rowsV encW raw)) := Lib.hid (by rwa [hna] at k2)
                  have HX : Hid (∀ v5 w5, w5.ownsRow w.heap.size 31 2 v5 (na + sm) (rowsV encW raw ++ rowsV encW rawN) → wr.grownBy w5 (Value.slice Ao na co).ownBlock → PH w.heap.size w5 v5 (.slice Ab j cb) (.slice Ae j ce) (joinS m ((grp L).take (k + 1))) (begL m 0 ((grp L).take (k + 1))) (endL m 0 ((grp L).take (k + 1))) ∧ Below w.heap.size w w5) := Lib.hid fun v5 w5 h5 hg5 => by
                    refine ⟨?_, own_below HOWN.out HB.out HB.out.size hg5⟩
                    rw [HSN.out, HSB.out, HSE.out, hsmn]
                    have hz := hpo.1.pushO k1 k2 k3 l3 l1 hg5 (by rw [hna, hsmn]; exact h5)
                    rwa [List.length_append, List.length_replicate, hbl, List.length_append, List.length_replicate, hel, ht] at hz
                  have hws := HB.out.size
                  clear hpo k1 k2 k3 l1 l2 l3 hpos hv2 HPO
                  generalize rowsV encW raw = ov at *
                  generalize rowsV encW rawN = nv at *
                  go_wp2_with (at_builtin; go_must (refine wpList_append_own _ rfl _ _ 22 rfl w.heap.size 31 i0 _ 2 32 Try.underlying22 hi0 hz0 hz1 hz2 rfl (by decide) (.slice Ao na co) na ov rfl HOWN.out ⟨g3, 0, none⟩ sm cm nv rfl HRL.out HCL.out HON.out (by unfold maxLen; omega) (by omega) hws ?_; intro v5 w5 hown5 hgrow5 _; have HZ := Lib.hid (HX.out _ _ hown5 hgrow5); clear hown5 hgrow5))
                  go_roundw
                  case rel => exact ⟨i + 1, k + 1, _, _, _, rfl, rfl, rfl, by go_num, hlt, HKN, Lib.hid HZ.out.1, Lib.hid HZ.out.2⟩
                  case measure => simp [intOf]; omega
      · obtain ⟨hmid, j0, g0, hg0, q1, q2⟩ := LH.mid HK.out.2 (by have := HK.out.2.1; omega) HK.out.1
        have hln : lineOf L i = (joinL ((grp L).take j0)).length := line_at L j0 g0 hg0 i (by omega) q2
        have HL1 := Lib.hid (fun W hW => HLN.out W i _ hlt hln hW)
        have HKN : Hid (k ≤ (grp L).length ∧ LH (grp L) k (i + 1)) := Lib.hid ⟨HK.out.1, hmid⟩
        have hne : (((joinL ((grp L).take j0)).length : Int) == (i : Int)) = false := by simp; omega
        have hne2 : ¬ (((joinL ((grp L).take j0)).length : Int) = (i : Int)) := by omega
        generalize (joinL ((grp L).take j0)).length = z at *
        clear hmid hg0 q1 q2 hln hs HK
        go_wp2_with (go_at_call 13; (with_reducible refine (HL1.out _ HB.out).mono ?_); rintro e w1 ⟨rfl, hb⟩; have HB1 := Lib.hid (bel0 HB.out hb); have HP1 := Lib.hid (HPH.out.past hb); clear hb)
        go_roundw
        case rel => exact ⟨i + 1, k, _, _, _, rfl, rfl, rfl, by go_num, hlt, HKN, HP1, HB1⟩
        case measure => simp [intOf]; omega
    · obtain rfl : i = n := by omega
      have hkk := LH.over HNE.out HK.out.2 (by rw [HJ.out]; exact HN.out) HK.out.1
      have HE : Hid (PH w.heap.size wr (.slice Ao (reflowL m L).length co) (.slice Ab i cb) (.slice Ae i ce) (reflowL m L) (begL m 0 (grp L)) (endL m 0 (grp L))) := Lib.hid (by
        have hpo := HPH.out
        have hbl := begL_len m (grp L) 0
        have hel := endL_len m (grp L) 0
        rw [HJ.out, ← HN.out] at hbl hel
        rw [hkk, List.take_length, hbl, hel] at hpo
        exact hpo)
      have hnco : (reflowL m L).length ≤ co := by
        obtain ⟨A', c', hv, hc'⟩ := HE.out.out.form
        injection hv with _ _ hv
        omega
      rw [hkk, List.take_length, begL_len, endL_len, HJ.out, ← HN.out]
      rw [show joinS m (grp L) = reflowL m L from rfl]
      clear HK hkk HPH
      generalize wr = wq at *
      have HBL : Hid ((begL m 0 (grp L)).length = i ∧ (endL m 0 (grp L)).length = i) := Lib.hid (by rw [begL_len, endL_len, HJ.out]; exact ⟨HN.out.symm, HN.out.symm⟩)
      have HRN := Lib.hid HE.out.out.read.2
      have HBG : Hid (0 < i → ∃ gb ge, Ab = some ⟨gb, 0, none⟩ ∧ Ae = some ⟨ge, 0, none⟩ ∧ gb < wq.heap.size ∧ ∀ W r j g, Below wq.heap.size wq W → (grp L)[j]? = some g → (joinL ((grp L).take j)).length ≤ r → r < (joinL ((grp L).take j)).length + g.length → W.cell? ⟨gb, r, none⟩ = some (.int .i64 ((joinS m ((grp L).take j)).length : Nat)) ∧ W.cell? ⟨ge, r, none⟩ = some (.int .i64 (((joinS m ((grp L).take j)).length + (newL m g).length : Nat) : Int))) := Lib.hid fun hpos => by
        have hb := HE.out.b
        have he := HE.out.e
        obtain ⟨gb, cb', hvb, _, _⟩ := hb.form (by rw [HBL.out.1]; exact hpos)
        obtain ⟨ge, ce', hve, _, _⟩ := he.form (by rw [HBL.out.2]; exact hpos)
        injection hvb with hvb1 _ _
        injection hve with hve1 _ _
        refine ⟨gb, ge, hvb1, hve1, (hb.lt gb (by rw [hvb1]; rfl)).2, fun W r j g hW hg q1 q2 => ?_⟩
        obtain ⟨x1, x2⟩ := begL_at m (grp L) j g r 0 hg q1 q2
        rw [Nat.zero_add] at x1 x2
        subst hvb1; subst hve1
        have hrb : r < i := by
          have h1 := (List.getElem?_eq_some_iff.1 x1).1
          rw [HBL.out.1] at h1; exact h1
        refine ⟨?_, ?_⟩
        · have c1 := (own_pastK hb hW).cells (g := gb) (by simp [Value.ownBlock]) r _ (show (intsV (begL m 0 (grp L)))[r]? = _ by rw [intsV, List.getElem?_map, x1]; rfl)
          have e : ((⟨gb, 0, none⟩ : Addr).add r) = ⟨gb, r, none⟩ := by unfold Addr.add; split <;> simp_all
          rwa [e] at c1
        · have c1 := (own_pastK he hW).cells (g := ge) (by simp [Value.ownBlock]) r _ (show (intsV (endL m 0 (grp L)))[r]? = _ by rw [intsV, List.getElem?_map, x2]; rfl)
          have e : ((⟨ge, 0, none⟩ : Addr).add r) = ⟨ge, r, none⟩ := by unfold Addr.add; split <;> simp_all
          rwa [e] at c1
      obtain ⟨nn, hnn⟩ : ∃ nn, (reflowL m L).length = nn := ⟨_, rfl⟩
      have HNN := Lib.hid hnn
      rw [hnn] at hrl hnco ⊢
      have hnlt : ¬ ((i : Int) < i) := by omega
      have HB0 := HB
      have hwr := HB.out.size
      clear hnn HE HB
      go_wp2
      go_loopw [15, 16] (fun vp q wr => ∃ (t : Nat) (vp' : Value), vp' = vp ∧ q = .int .i64 t ∧ t ≤ nl ∧ Hid (wr.ownsRow wq.heap.size 39 2 vp' t (rowsV encPI ((ps.map fun p => (((movedP m L p.1 p.2).1 : Int), ((movedP m L p.1 p.2).2 : Int))).take t))) ∧ Hid (Below wq.heap.size wq wr)) (fun _ q _ => nl - (intOf q).toNat)
      case atStart => exact ⟨0, _, rfl, rfl, Nat.zero_le _, Lib.hid (World.ownsRow_nil _ _ _ _), Lib.hid (Below.refl _ _)⟩
      case round =>
        obtain ⟨t, vp, rfl, rfl, ht, HO, HB⟩ := hrel
        obtain ⟨Ap, cp, rfl, _⟩ := own_formK HO.out
        by_cases htl : t < nl
        · have htli : (t : Int) < nl := by omega
          obtain ⟨⟨z, c0⟩, hpt⟩ : ∃ p, ps[t]? = some p := ⟨_, List.getElem?_eq_getElem (by have := HNL.out; omega)⟩
          obtain ⟨bl, offl, rfl, _, hcl⟩ := (HP.out.past (bel0 HB0.out HB.out)) (fun e => by rw [e] at hpt; simp at hpt)
          have q0 : wr.cell? ⟨bl, offl + t * 2, none⟩ = some (.int .i64 z) := hcl t _ hpt 0 _ rfl
          have q1 : wr.cell? ⟨bl, offl + t * 2 + 1, none⟩ = some (.int .i64 c0) := hcl t _ hpt 1 _ rfl
          have HSN := Lib.hid (rowsV_snoc2 (ps := ps.map fun p => (((movedP m L p.1 p.2).1 : Int), ((movedP m L p.1 p.2).2 : Int))) (t := t) (p := (((movedP m L z c0).1 : Int), ((movedP m L z c0).2 : Int))) (by rw [List.getElem?_map, hpt]; rfl))
          have HOW : Hid (∀ W, Below wr.heap.size wr W → W.ownsRow wq.heap.size 39 2 (.slice Ap t cp) t (rowsV encPI ((ps.map fun p => (((movedP m L p.1 p.2).1 : Int), ((movedP m L p.1 p.2).2 : Int))).take t)) ∧ Below wq.heap.size wq W ∧ wq.heap.size ≤ W.heap.size) := Lib.hid fun W hW => ⟨own_pastK HO.out hW, bel0 HB.out hW, Nat.le_trans HB.out.size hW.size⟩
          have HEND : Hid (∀ W w5 v5 (x y : Int), x = ((movedP m L z c0).1 : Int) → y = ((movedP m L z c0).2 : Int) → Below wr.heap.size wr W → w5.ownsRow wq.heap.size 39 2 v5 (t + 1) (rowsV encPI ((ps.map fun p => (((movedP m L p.1 p.2).1 : Int), ((movedP m L p.1 p.2).2 : Int))).take t) ++ [.int .i64 x, .int .i64 y]) → W.grownBy w5 (Value.slice Ap t cp).ownBlock → w5.ownsRow wq.heap.size 39 2 v5 (t + 1) (rowsV encPI ((ps.map fun p => (((movedP m L p.1 p.2).1 : Int), ((movedP m L p.1 p.2).2 : Int))).take (t + 1))) ∧ Below wq.heap.size wq w5) := Lib.hid fun W w5 v5 x y hx hy hW h5 hg5 => by
            obtain ⟨o1, o2, o3⟩ := HOW.out W hW
            refine ⟨by rw [HSN.out]; subst hx; subst hy; exact h5, own_below o1 o2 o3 hg5⟩
          clear hcl HO HSN hpt
          generalize rowsV encPI ((ps.map fun p => (((movedP m L p.1 p.2).1 : Int), ((movedP m L p.1 p.2).2 : Int))).take t) = pv at *
          have hpv1 := Lib.hid HEND.out
          generalize hpv : rowsV encPI ((ps.map fun p => (((movedP m L p.1 p.2).1 : Int), ((movedP m L p.1 p.2).2 : Int))).take (t + 1)) = pv1 at HEND
          replace hpv := Lib.hid hpv
          clear hpv1
          have hzz : (z < 0 → movedP m L z c0 = if i ≤ 0 then (nn, 0) else moveP m (grp L) 0 0) ∧ (0 ≤ z → movedP m L z c0 = if i ≤ z.toNat then (nn, 0) else moveP m (grp L) z.toNat c0) := by
            refine ⟨fun h1 => ?_, fun h1 => ?_⟩
            · have e : movedP m L z c0 = (0, 0) := by unfold movedP; rw [if_pos h1]
              by_cases h3 : i ≤ 0
              · have hL0 : L = [] := List.eq_nil_of_length_eq_zero (by have := HN.out; omega)
                have hn0 : nn = 0 := by rw [← HNN.out, hL0]; unfold reflowL; rw [grp_nil]; rfl
                rw [if_pos h3, e, hn0]
              · rw [if_neg h3, e, moveP_zero m h2 (grp L) HNE.out]
            · have e : movedP m L z c0 = moveP m (grp L) z.toNat c0 := by unfold movedP; rw [if_neg (by omega)]
              by_cases h3 : i ≤ z.toNat
              · rw [if_pos h3, e, moveP_over m (grp L) z.toNat c0 (by rw [HJ.out]; have := HN.out; omega), ← HNN.out]; rfl
              · rw [if_neg h3, e]
          have HZZ := Lib.hid hzz
          clear hzz
          go_upto_if 94 with fail
          go_cut [17] (fun s17 wx => ∃ (r : Nat) (cc : Int), s17 = .pointer (some ⟨wr.heap.size, 0, none⟩) ∧ Hid (B2 wr.heap.size (r : Int) cc wx ∧ Below wr.heap.size wr wx ∧ movedP m L z c0 = if i ≤ r then (nn, 0) else moveP m (grp L) r cc))
          case first =>
            by_cases hz : z < 0
            · have hz2 : decide (z < 0) = true := decide_eq_true hz
              go_wp2
              go_meet
              case rel => exact ⟨0, 0, rfl, Lib.hid ⟨heap_alloc_new wr _, belA (Below.refl _ _) _, HZZ.out.1 hz⟩⟩
            · have hz2 : decide (z < 0) = false := decide_eq_false hz
              have hz3 : 0 ≤ z := by omega
              obtain ⟨r, rfl⟩ := Int.eq_ofNat_of_zero_le hz3
              go_wp2
              go_meet
              case rel => exact ⟨r, c0, rfl, Lib.hid ⟨heap_alloc_new wr _, belA (Below.refl _ _) _, HZZ.out.2 hz3⟩⟩
          case rest =>
            obtain ⟨r, cc, rfl, HCC⟩ := hcut
            clear q0 q1 HZZ
            obtain ⟨v0, v1⟩ := HCC.out.1.cells
            by_cases hov : i ≤ r
            · have hmv := HCC.out.2.2
              rw [if_pos hov] at hmv
              rw [hmv] at HEND
              have hz3 : (i : Int) ≤ r := by omega
              have hwz := HCC.out.2.1.size
              go_wp2_with (at_builtin; go_must (refine wpList_append_own _ rfl _ _ 43 rfl wq.heap.size 39 i3 _ 2 16 Try.underlying43 hi3 hx0 hx1 hx2 rfl (by decide) (.slice Ap t cp) t pv rfl (HOW.out _ (belA HCC.out.2.1 _)).1 ⟨wc.heap.size, 0, none⟩ 1 1 [.int .i64 (nn : Int), .int .i64 0] rfl rfl (news2R wc _ _ _) (by simp [Value.oneCell']) (by unfold maxLen; omega) (by omega) (HOW.out _ (belA HCC.out.2.1 _)).2.2 ?_; intro v5 w5 hown5 hgrow5 _; have HZ := Lib.hid (HEND.out _ _ _ _ _ rfl rfl (belA HCC.out.2.1 _) hown5 hgrow5); clear hown5 hgrow5))
              go_roundw
              case rel => exact ⟨t + 1, _, rfl, by go_num, htl, Lib.hid (by rw [hpv.out]; exact HZ.out.1), Lib.hid HZ.out.2⟩
              case measure => simp [intOf]; omega
            · have hmv := HCC.out.2.2
              rw [if_neg hov] at hmv
              have hri : r < i := by omega
              have hrii : (r : Int) < i := by omega
              obtain ⟨j0, g, hg, s1, s2⟩ := line_of (grp L) r (by rw [HJ.out]; have := HN.out; omega)
              have hmi := moved_in m (grp L) j0 g r cc hg s1 s2
              rw [hmv, hmi] at HEND
              have hln := line_at L j0 g hg r s1 s2
              obtain ⟨r1, r2, r3⟩ := grp_rows L.length L (Nat.le_refl _) j0 g hg
              have hjc := join_cut (grp L) j0 g hg
              have hjl := join_le (grp L) j0 g hg
              rw [HJ.out] at hjc hjl
              rw [← HN.out] at hjl r3
              obtain ⟨gb, ge, rfl, rfl, hgbl, hbg⟩ := HBG.out (by omega)
              have HBJ := Lib.hid (fun W hW => hbg W r j0 g hW hg s1 s2)
              obtain ⟨b, off, rfl⟩ := HR.out.some (fun e => by have := HN.out; rw [e] at this; simp at this; omega)
              have hnl := new_le m (grp L) j0 g hg
              have hnl0 : 0 < (newL m g).length := List.length_pos_iff.2 (newL_ne m g)
              rw [show joinS m (grp L) = reflowL m L from rfl, HNN.out] at hnl
              obtain ⟨g3, o3, rfl⟩ := HRN.out.some (fun e => by have h1 := HNN.out; rw [e] at h1; simp at h1; omega)
              have HCK : Hid (∀ W jj, Below w.heap.size w W → jj < i → W.cell? ⟨b, off + jj * 2 + 1, none⟩ = some (.bool (Ar L jj).k)) := Lib.hid fun W jj hW hj => by
                obtain ⟨b', off', e, hl', hc'⟩ := (HR.out.past hW) (fun e => by have := HN.out; rw [e] at this; simp at this; omega)
                injection e with e
                injection e with e1 e2 _
                subst e1; subst e2
                obtain ⟨Ai, ci, _, q2, _⟩ := hc' jj (by have := HN.out; omega)
                exact q2
              have hoffle : offR g (r - (joinL ((grp L).take j0)).length) cc ≤ 100000 := by
                have h1 := offR_le g (r - (joinL ((grp L).take j0)).length) cc
                rw [pre_flat] at h1
                have h5 := (HFL.out w b off c _ g rfl (Below.refl _ _) hjc hjl).1
                omega
              have HOC := Lib.hid (fun W c' hW hgc => HOF.out W b off c' _ g (r - (joinL ((grp L).take j0)).length) cc rfl hW hjc hjl hgc)
              have HPC := Lib.hid (fun W c' hR hgc => HPLC.out W g3 o3 c' j0 g (offR g (r - (joinL ((grp L).take j0)).length) cc) hR hg (by omega) hgc)
              have HLc := Lib.hid (fun W hW => HLN.out W r _ hri hln hW)
              have hpl : (placeR (newL m g) (offR g (r - (joinL ((grp L).take j0)).length) cc)).1 ≤ 1000000 ∧ True := ⟨by have := placeR_lt (newL m g) (offR g (r - (joinL ((grp L).take j0)).length) cc) (newL_ne m g); omega, trivial⟩
              have hpl1 := hpl.1
              generalize placeR (newL m g) (offR g (r - (joinL ((grp L).take j0)).length) cc) = pq at *
              generalize offR g (r - (joinL ((grp L).take j0)).length) cc = ofs at *
              obtain ⟨p1, p2⟩ := pq
              generalize hbgl : (joinS m ((grp L).take j0)).length = bg at *
              generalize (newL m g).length = nw at *
              generalize (joinL ((grp L).take j0)).length = s at *
              obtain ⟨gl, hgl⟩ : ∃ gl, g.length = gl := ⟨_, rfl⟩
              rw [hgl] at HOC s2 r1 r3 hjl
              obtain ⟨e, he⟩ : ∃ e, s + gl = e := ⟨_, rfl⟩
              rw [he] at s2 r1 r3 hjl
              have HR1 := Lib.hid r1
              have HR3 := Lib.hid r3
              have HA0 := Lib.hid HCC.out.2.1
              have HBX0 := Lib.hid HCC.out.1
              have hrw : IntKind.i64.wrap ((r : Int) + 1) = (r : Int) + 1 := by rw [IntKind.wrap_i64]; omega
              clear hov HCC hmi hln r1 r2 r3 hjc hbg hpl hbgl hg hmv hgl
              go_wp2_with (go_at_call 13; (with_reducible refine (HLc.out _ (bel0 HB0.out (bel0 HB.out HA0.out))).mono ?_); rintro e5 w5 ⟨rfl, hb⟩; have HB5 := Lib.hid (bel0 HA0.out hb); have HBX5 := Lib.hid (HBX0.out.past hb); obtain ⟨x0, x1⟩ := HBX5.out.cells; clear hb)
              clear HLc HBX0 v0 v1
              go_loopw [19] (fun q wx => ∃ jj : Nat, q = .int .i64 jj ∧ r + 1 ≤ jj ∧ jj ≤ e ∧ w5 = wx) (fun q _ => e - (intOf q).toNat)
              case atStart => exact ⟨r + 1, by go_num, Nat.le_refl _, by omega, by trivial⟩
              case round =>
                obtain ⟨jj, rfl, hij, hjt, rfl⟩ := hrel
                by_cases hj : jj < e
                · have hjn : (jj : Int) < i := by omega
                  have hcj := HCK.out _ jj (bel0 HB0.out (bel0 HB.out HB5.out)) (by omega)
                  rw [HR1.out jj (by omega) hj] at hcj
                  go_wp2
                  go_roundw
                  case rel => exact ⟨jj + 1, by go_num, by omega, hj, by trivial⟩
                  case measure => simp [intOf]; omega
                · obtain rfl : jj = e := by omega
                  have hck : (jj = i ∧ ¬ ((jj : Int) < i)) ∨ (jj < i ∧ (jj : Int) < i ∧ w5.cell? ⟨b, off + jj * 2 + 1, none⟩ = some (.bool false)) := by
                    rcases Nat.lt_or_ge jj i with hjn | hjn
                    · have hcj := HCK.out _ jj (bel0 HB0.out (bel0 HB.out HB5.out)) hjn
                      rw [HR3.out hjn] at hcj
                      exact .inr ⟨hjn, by omega, hcj⟩
                    · exact .inl ⟨by omega, by omega⟩
                  have hnl4 : jj - s = gl := by omega
                  have hjli : (jj : Int) ≤ i := by omega
                  have hij2 : (s : Int) ≤ jj := by omega
                  have hjc2 : jj ≤ c := by omega
                  have hjci : (jj : Int) ≤ c := by omega
                  have hic : ¬ (c = s) := by omega
                  have hsr : (r : Int) - (s : Int) = ((r - s : Nat) : Int) := by omega
                  have HOD := Lib.hid (HOC.out w5.drew (c - s) (bel0 HB0.out (bel0 HB.out HB5.out.drew)) (by omega))
                  have hrw2 : IntKind.i64.wrap ((r - s : Nat) : Int) = ((r - s : Nat) : Int) := by rw [IntKind.wrap_i64]; omega
                  have HPD : Hid (∀ w6 W, Below wr.heap.size wr w6 → Below w6.heap.size w6 W → Calls Try.prog 24 #[.slice (some ⟨g3, o3 + bg * 2, none⟩) nw (co - bg), .int .i64 (ofs : Int)] W fun e w' => e = .returned (.agg #[.int .i64 (p1 : Nat), .int .i64 (p2 : Nat)]) ∧ Below W.heap.size W w') := Lib.hid fun w6 W h6 hW => HPC.out W (co - bg) (HRN.out.past (bel0 HB.out (bel0 h6 hW))) (by omega)
                  have HBJ6 := Lib.hid (fun w6 h6 => HBJ.out w6 (bel0 HB.out h6))
                  obtain ⟨en, hen⟩ : ∃ en, bg + nw = en := ⟨_, rfl⟩
                  rw [hen] at HBJ6 hnl
                  have hbe : (bg : Int) ≤ en := by omega
                  have hbe2 : bg ≤ en := by omega
                  have henc : en ≤ co := by omega
                  have henci : (en : Int) ≤ co := by omega
                  have hnw4 : en - bg = nw := by omega
                  have hcb : ¬ (co = bg) := by omega
                  have hsw : IntKind.i64.wrap ((bg : Int) + (p1 : Int)) = (bg : Int) + (p1 : Int) := by rw [IntKind.wrap_i64]; omega
                  clear HOC HR1 HR3 HPC HBJ hen
                  rcases hck with ⟨-, hck1⟩ | ⟨hjn, hck1, hck2⟩
                  all_goals
                    go_wp2_with fail
                    go_cut [20] (fun s20 wx => s20 = .int .i64 (ofs : Int) ∧ Hid (Below wr.heap.size wr wx ∧ B2 wr.heap.size (r : Int) cc wx))
                    case first =>
                      clear HPD HBJ6 HRN
                      go_region_with (go_at_call 22; (with_reducible refine (HOD.out).mono ?_); rintro e6 w6 ⟨rfl, hb⟩; have HB6 := Lib.hid (bel0 HB5.out.drew hb); have HBX6 := Lib.hid (B2.past (W := w5.drew) HBX5.out hb); clear hb)
                      all_goals
                        go_wp2
                        go_meet
                        case rel => exact ⟨rfl, Lib.hid ⟨HB6.out, HBX6.out⟩⟩
                    case rest =>
                      obtain ⟨rfl, HC6⟩ := hcut
                      clear HOD HBX5 x0 x1 HB5
                      obtain ⟨y0, y1⟩ := HC6.out.2.cells
                      obtain ⟨y2, y3⟩ := HBJ6.out _ HC6.out.1
                      go_wp2_with fail
                      go_cut [21] (fun s21 wx => ∃ Q, s21 = .pointer (some ⟨Q, 0, none⟩) ∧ Hid (B2 Q (p1 : Int) (p2 : Int) wx ∧ B2 wr.heap.size (r : Int) cc wx ∧ Below wr.heap.size wr wx ∧ wr.heap.size ≤ Q))
                      case first =>
                        have HPA := Lib.hid (HPD.out wc wc.drew HC6.out.1 (Below.refl _ _).drew)
                        have HPB := Lib.hid (HPD.out wc (wc.alloc (.cells #[.int .i64 0, .int .i64 0] 39)).drew HC6.out.1 (belA (Below.refl _ _) _).drew)
                        have hwrc := (Array.getElem?_eq_some_iff.1 HC6.out.2).1
                        have HZA : Hid (∀ w7, Below wc.drew.heap.size wc.drew w7 → B2 w7.heap.size (p1 : Int) (p2 : Int) (w7.alloc (.cells #[.int .i64 (p1 : Int), .int .i64 (p2 : Int)] 39)) ∧ B2 wr.heap.size (r : Int) cc (w7.alloc (.cells #[.int .i64 (p1 : Int), .int .i64 (p2 : Int)] 39)) ∧ Below wr.heap.size wr (w7.alloc (.cells #[.int .i64 (p1 : Int), .int .i64 (p2 : Int)] 39))) := Lib.hid fun w7 hb =>
                          ⟨heap_alloc_new w7 _, (B2.past (W := wc.drew) HC6.out.2 hb).past (belA (Below.refl _ _) _), bel0 (bel0 HC6.out.1 (belD hb)) (belA (Below.refl _ _) _)⟩
                        have HZB : Hid (∀ w7, Below (wc.alloc (.cells #[.int .i64 0, .int .i64 0] 39)).drew.heap.size (wc.alloc (.cells #[.int .i64 0, .int .i64 0] 39)).drew w7 → w7.heap[wc.heap.size]? = some (.cells #[.int .i64 0, .int .i64 0] 39 (0, 0)) ∧ B2 wr.heap.size (r : Int) cc w7 ∧ Below wr.heap.size wr w7) := Lib.hid fun w7 hb => by
                          have hb' : Below (wc.alloc (.cells #[.int .i64 0, .int .i64 0] 39)).heap.size (wc.alloc (.cells #[.int .i64 0, .int .i64 0] 39)) w7 := belD hb
                          exact ⟨(hb'.block _ (by simp)).trans (heap_alloc_new wc _), (HC6.out.2.past (belA (Below.refl _ _) _)).past hb', bel0 (bel0 HC6.out.1 (belA (Below.refl _ _) _)) hb'⟩
                        have HZD : Hid (∀ w7, w7.heap[wc.heap.size]? = some (.cells #[.int .i64 0, .int .i64 0] 39 (0, 0)) ∧ B2 wr.heap.size (r : Int) cc w7 ∧ Below wr.heap.size wr w7 → (((w7.setCell ⟨wc.heap.size, 0, none⟩ (.int .i64 (p1 : Int))).setCell ⟨wc.heap.size, 1, none⟩ (.int .i64 (p2 : Int))).cell? ⟨wr.heap.size, 0, none⟩ = some (.int .i64 (r : Int)) ∧ ((w7.setCell ⟨wc.heap.size, 0, none⟩ (.int .i64 (p1 : Int))).setCell ⟨wc.heap.size, 1, none⟩ (.int .i64 (p2 : Int))).cell? ⟨wr.heap.size, 1, none⟩ = some (.int .i64 cc) ∧ ((w7.setCell ⟨wc.heap.size, 0, none⟩ (.int .i64 (p1 : Int))).setCell ⟨wc.heap.size, 1, none⟩ (.int .i64 (p2 : Int))).cell? ⟨gb, r, none⟩ = some (.int .i64 (bg : Nat)) ∧ ((w7.setCell ⟨wc.heap.size, 0, none⟩ (.int .i64 (p1 : Int))).setCell ⟨wc.heap.size, 1, none⟩ (.int .i64 (p2 : Int))).cell? ⟨ge, r, none⟩ = some (.int .i64 (en : Nat))) ∧ Below wr.heap.size wr ((w7.setCell ⟨wc.heap.size, 0, none⟩ (.int .i64 (p1 : Int))).setCell ⟨wc.heap.size, 1, none⟩ (.int .i64 (p2 : Int)))) := Lib.hid fun w7 ⟨z1, z2, z3⟩ => by
                          have hle := HC6.out.1.size
                          have hB : Below wr.heap.size wr ((w7.setCell ⟨wc.heap.size, 0, none⟩ (.int .i64 (p1 : Int))).setCell ⟨wc.heap.size, 1, none⟩ (.int .i64 (p2 : Int))) := belW (belW z3 hle) hle
                          have hz2 : B2 wr.heap.size (r : Int) cc ((w7.setCell ⟨wc.heap.size, 0, none⟩ (.int .i64 (p1 : Int))).setCell ⟨wc.heap.size, 1, none⟩ (.int .i64 (p2 : Int))) := by
                            show _ = _
                            rw [Below.heap_setCell _ _ _ _ (by show wr.heap.size ≠ wc.heap.size; omega), Below.heap_setCell _ _ _ _ (by show wr.heap.size ≠ wc.heap.size; omega)]
                            exact z2
                          exact ⟨⟨hz2.cells.1, hz2.cells.2, (HBJ6.out _ hB).1, (HBJ6.out _ hB).2⟩, hB⟩
                        have HZC : Hid (∀ w7, w7.heap[wc.heap.size]? = some (.cells #[.int .i64 0, .int .i64 0] 39 (0, 0)) ∧ B2 wr.heap.size (r : Int) cc w7 ∧ Below wr.heap.size wr w7 → B2 wc.heap.size (p1 : Int) (p2 : Int) ((w7.setCell ⟨wc.heap.size, 0, none⟩ (.int .i64 (p1 : Int))).setCell ⟨wc.heap.size, 1, none⟩ (.int .i64 (p2 : Int))) ∧ B2 wr.heap.size (r : Int) cc ((w7.setCell ⟨wc.heap.size, 0, none⟩ (.int .i64 (p1 : Int))).setCell ⟨wc.heap.size, 1, none⟩ (.int .i64 (p2 : Int))) ∧ Below wr.heap.size wr ((w7.setCell ⟨wc.heap.size, 0, none⟩ (.int .i64 (p1 : Int))).setCell ⟨wc.heap.size, 1, none⟩ (.int .i64 (p2 : Int)))) := Lib.hid fun w7 ⟨z1, z2, z3⟩ => by
                          have hle := HC6.out.1.size
                          refine ⟨two_set z1 _ _, ?_, belW (belW z3 hle) hle⟩
                          show _ = _
                          rw [Below.heap_setCell _ _ _ _ (by show wr.heap.size ≠ wc.heap.size; omega), Below.heap_setCell _ _ _ _ (by show wr.heap.size ≠ wc.heap.size; omega)]
                          exact z2
                        have hSd : (wc.drew.cell? ⟨wr.heap.size, 0, none⟩ = some (.int .i64 (r : Int)) ∧ wc.drew.cell? ⟨wr.heap.size, 1, none⟩ = some (.int .i64 cc) ∧ wc.drew.cell? ⟨gb, r, none⟩ = some (.int .i64 (bg : Nat)) ∧ wc.drew.cell? ⟨ge, r, none⟩ = some (.int .i64 (en : Nat))) ∧ Below wr.heap.size wr wc.drew := ⟨⟨y0, y1, y2, y3⟩, HC6.out.1.drew⟩
                        clear HBJ6 HRN HOW HEND
                        go_region_held3 (fun W => (W.cell? ⟨wr.heap.size, 0, none⟩ = some (.int .i64 (r : Int)) ∧ W.cell? ⟨wr.heap.size, 1, none⟩ = some (.int .i64 cc) ∧ W.cell? ⟨gb, r, none⟩ = some (.int .i64 (bg : Nat)) ∧ W.cell? ⟨ge, r, none⟩ = some (.int .i64 (en : Nat))) ∧ Below wr.heap.size wr W)
                          (first | exact hSd | exact c4_step hSd hb6 | exact c4_step (c4_step hSd hb6) (belA (Below.refl _ _) _) | exact c4_step hSd (belA (Below.refl _ _) _) | exact c4_step (c4_step hSd (belA (Below.refl _ _) _)) hb6 | exact c4_step (by assumption) (belA (Below.refl _ _) _) | exact c4_step (by assumption) hb6 | exact HQS.out)
                          (first
                            | (go_at_call 24; (with_reducible refine (HPA.out).mono ?_); rintro e7 w7 ⟨rfl, hb6⟩; have HQ := Lib.hid (HZA.out _ hb6); have HQL := Lib.hid (Nat.le_trans HC6.out.1.size hb6.size))
                            | (go_at_call 24; (with_reducible refine (HPB.out).mono ?_); rintro e7 w7 ⟨rfl, hb6⟩; have HQ := Lib.hid (HZC.out _ (HZB.out _ hb6)); have HQS := Lib.hid (HZD.out _ (HZB.out _ hb6)); obtain ⟨z0, z1, zf, zl⟩ := cell2_of (HZB.out _ hb6).1; have zf0 := zf 0; have zf1 := zf 1; clear zf))
                        all_goals
                          go_wp2
                          go_meet
                          case rel => exact ⟨_, rfl, Lib.hid ⟨HQ.out.1, HQ.out.2.1, HQ.out.2.2, by first | exact HC6.out.1.size | exact HQL.out⟩⟩
                      case rest =>
                        obtain ⟨Q, rfl, HC7⟩ := hcut
                        clear y0 y1 y2 y3 HC6 HPD HRN
                        obtain ⟨y0, y1⟩ := HC7.out.2.1.cells
                        obtain ⟨y4, y5⟩ := HC7.out.1.cells
                        obtain ⟨y2, y3⟩ := HBJ6.out _ HC7.out.2.2.1
                        have hwz := HC7.out.2.2.1.size
                        go_wp2_with fail
                        have hSd : (wc.drew.cell? ⟨wr.heap.size, 0, none⟩ = some (.int .i64 (r : Int)) ∧ wc.drew.cell? ⟨Q, 0, none⟩ = some (.int .i64 (p1 : Int)) ∧ wc.drew.cell? ⟨Q, 1, none⟩ = some (.int .i64 (p2 : Int)) ∧ wc.drew.cell? ⟨gb, r, none⟩ = some (.int .i64 (bg : Nat))) ∧ Below wq.heap.size wq wc.drew := ⟨⟨y0, y4, y5, y2⟩, (bel0 HB.out HC7.out.2.2.1).drew⟩
                        have HS35 : Hid (∀ w5, (wc.drew.alloc (.cells #[.int .i64 ((bg : Int) + (p1 : Int)), .int .i64 (p2 : Int)] 39)).grownBy w5 (Value.slice Ap t cp).ownBlock → Below wq.heap.size wq w5 → (w5.cell? ⟨wr.heap.size, 0, none⟩ = some (.int .i64 (r : Int)) ∧ w5.cell? ⟨Q, 0, none⟩ = some (.int .i64 (p1 : Int)) ∧ w5.cell? ⟨Q, 1, none⟩ = some (.int .i64 (p2 : Int)) ∧ w5.cell? ⟨gb, r, none⟩ = some (.int .i64 (bg : Nat))) ∧ Below wq.heap.size wq w5) := Lib.hid fun w5 hg5 hbw => by
                          have hrow : ∀ k, some k = (Value.slice Ap t cp).ownBlock → wq.heap.size ≤ k ∧ k < wr.heap.size := fun k hk => ((HOW.out wr (Below.refl _ _)).1.lt k hk.symm)
                          have hQ := HC7.out.2.2.2
                          obtain ⟨u1, u2⟩ := c4_step hSd (belA (Below.refl _ _) (.cells #[.int .i64 ((bg : Int) + (p1 : Int)), .int .i64 (p2 : Int)] 39))
                          refine ⟨⟨hg5.cell u1.1 (fun e => by have h9 : wq.heap.size ≤ wr.heap.size ∧ wr.heap.size < wr.heap.size := hrow _ e; omega), hg5.cell u1.2.1 (fun e => by have h9 : wq.heap.size ≤ Q ∧ Q < wr.heap.size := hrow _ e; omega), hg5.cell u1.2.2.1 (fun e => by have h9 : wq.heap.size ≤ Q ∧ Q < wr.heap.size := hrow _ e; omega), hg5.cell u1.2.2.2 (fun e => by have h9 : wq.heap.size ≤ gb ∧ gb < wr.heap.size := hrow _ e; omega)⟩, hbw⟩
                        clear y1 y3
                        go_region_held3 (fun W => (W.cell? ⟨wr.heap.size, 0, none⟩ = some (.int .i64 (r : Int)) ∧ W.cell? ⟨Q, 0, none⟩ = some (.int .i64 (p1 : Int)) ∧ W.cell? ⟨Q, 1, none⟩ = some (.int .i64 (p2 : Int)) ∧ W.cell? ⟨gb, r, none⟩ = some (.int .i64 (bg : Nat))) ∧ Below wq.heap.size wq W)
                          (first | exact hSd | exact c4_step (by assumption) (belA (Below.refl _ _) _) | exact HQS.out)
                          (((refine step_append_own' rfl _ _ 43 rfl wq.heap.size 39 i3 _ 2 16 Try.underlying43 hi3 hx0 hx1 hx2 rfl (by decide) (.slice Ap t cp) t pv rfl (HOW.out _ (belA HC7.out.2.2.1.drew _)).1 ⟨wc.heap.size, 0, none⟩ 1 1 [.int .i64 ((bg : Int) + (p1 : Int)), .int .i64 (p2 : Int)] rfl rfl (news2R wc.drew _ _ _) (by simp [Value.oneCell']) (by unfold maxLen; omega) (by omega) (HOW.out _ (belA HC7.out.2.2.1.drew _)).2.2 ?_); intro v5 w5 hown5 hgrow5; have HZ := Lib.hid (HEND.out _ _ _ _ _ (by simp) (by simp) (belA HC7.out.2.2.1.drew _) hown5 hgrow5); have HQS := Lib.hid (HS35.out _ hgrow5 HZ.out.2); clear hown5 hgrow5))
                        all_goals
                          go_wp2
                          go_roundw
                          case rel => exact ⟨t + 1, _, rfl, by go_num, htl, Lib.hid (by rw [hpv.out]; exact HZ.out.1), Lib.hid HZ.out.2⟩
                          case measure => simp [intOf]; omega

        · obtain rfl : t = nl := by omega
          have HFIN : Hid (RK encPI 2 wr Ap (ps.map fun p => (((movedP m L p.1 p.2).1 : Int), ((movedP m L p.1 p.2).2 : Int))) ∧ RR wr Ao (reflowL m L) ∧ Below w.heap.size w wr) := Lib.hid (by
            have ho := HO.out
            rw [List.take_of_length_le (by rw [List.length_map]; have := HNL.out; omega)] at ho
            exact ⟨RK.of_own (enc := encPI) (K := 2) (fun _ => rfl) ho (HNL.out.trans (List.length_map _).symm), HRN.out.past HB.out, bel0 HB0.out HB.out⟩)
          clear HO
          have htl2 : ¬ ((t : Int) < t) := by omega
          go_wp2
          refine bodyPost_ret (v := .tuple #[.slice Ao nn co, .slice Ap t cp]) (by simp [results, Try.results26, go_sem]) rfl ?_
          exact ⟨Ao, co, Ap, ⟨cp, by rw [HNN.out]⟩, by rw [HNN.out]; exact hnco, HFIN.out.2.1, HFIN.out.1, HFIN.out.2.2⟩
end Go.Proofs.Ytfjgfmeanehpmaa
