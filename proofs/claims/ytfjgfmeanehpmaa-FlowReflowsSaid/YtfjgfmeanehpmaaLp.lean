/- The walk of flow.cloneAll. -/
import Derived.Test.YtfjgfmeanehpmaaLo
namespace Go.Proofs.Ytfjgfmeanehpmaa
open Go.RowKit

theorem cell_unlike {W : World} {p a : Addr} {A : Option Addr} {n c : Nat} {v u : Value} (hp : W.cell? p = some (.slice A n c)) (ha : W.cell? a = some u) (hu : ∀ A n c, u ≠ .slice A n c) : (W.setCell p v).cell? a = some u := by
  rw [World.cell?_setCell_other _ _ _ _ (fun e => by subst e; rw [hp] at ha; cases ha; exact hu _ _ _ rfl)]
  exact ha
theorem C8.unlike {W : World} {p : Addr} {A : Option Addr} {n c : Nat} {v : Value} {b o : Nat} {x : CC} (h : C8 W b o x) (hp : W.cell? p = some (.slice A n c)) : C8 (W.setCell p v) b o x := by
  unfold C8 at h ⊢
  obtain ⟨a0, a1, a2, a3, a4, a5, a6, a7⟩ := h
  exact ⟨cell_unlike hp a0 (by intro _ _ _ h; cases h), cell_unlike hp a1 (by intro _ _ _ h; cases h), cell_unlike hp a2 (by intro _ _ _ h; cases h), cell_unlike hp a3 (by intro _ _ _ h; cases h), cell_unlike hp a4 (by intro _ _ _ h; cases h), cell_unlike hp a5 (by intro _ _ _ h; cases h), cell_unlike hp a6 (by intro _ _ _ h; cases h), cell_unlike hp a7 (by intro _ _ _ h; cases h)⟩
theorem RC.unlike {W : World} {p : Addr} {A B : Option Addr} {n c : Nat} {v : Value} {l : List CC} (h : RC W W.heap.size B l) (hp : W.cell? p = some (.slice A n c)) : RC (W.setCell p v) (W.setCell p v).heap.size B l := fun hne => by
  obtain ⟨b, off, e, hl, hc⟩ := h hne
  exact ⟨b, off, e, by rw [World.size_setCell]; exact hl, fun k hk => (hc k hk).unlike hp⟩
/-- A row gets other cells that read the same. -/
theorem RR.recell {W : World} {g i : Nat} {L : List Rw} {A' : Option Addr} {c' : Nat} (h : RR W (Option.some ⟨g, 0, none⟩) L) (hi : i < L.length) (hR : RC W W.heap.size A' (Ar L i).c) (hc' : (Ar L i).c.length ≤ c') : RR (W.setCell ⟨g, i * 2, none⟩ (.slice A' (Ar L i).c.length c')) (Option.some ⟨g, 0, none⟩) L := fun hne => by
  obtain ⟨b, off, e, hl, hc⟩ := h hne
  cases e
  obtain ⟨A0, c0, h1, h2, h3, h4⟩ := hc i hi
  rw [Nat.zero_add] at h1
  refine ⟨g, 0, rfl, by rw [World.size_setCell]; exact hl, fun j hj => ?_⟩
  by_cases hij : j = i
  · subst hij
    exact ⟨A', c', by rw [Nat.zero_add]; exact World.cell?_setCell_same _ _ _ h1, by rw [World.cell?_setCell_other _ _ _ _ (fun e => by injection e with _ e _; omega)]; exact h2, hR.unlike h1, hc'⟩
  · obtain ⟨Aj, cj, g1, g2, g3, g4⟩ := hc j hj
    exact ⟨Aj, cj, by rw [World.cell?_setCell_other _ _ _ _ (fun e => by injection e with _ e _; omega)]; exact g1, by rw [World.cell?_setCell_other _ _ _ _ (fun e => by injection e with _ e _; omega)]; exact g2, g3.unlike h1, g4⟩
set_option maxRecDepth 100000 in
set_option maxHeartbeats 8000000 in
theorem cloneAll_any (A : Option Addr) (L : List Rw) (n c : Nat) (hn : n = L.length) (hl : n ≤ 100000) (hr : ∀ i, i < n → (Ar L i).c.length ≤ 100000) (w : World) (h : RR w A L) :
    Calls Try.prog 41 #[.slice A n c] w fun e w' => ∃ A' c', e = .returned (.slice A' n c') ∧ n ≤ c' ∧ RR w' A' L ∧ Below w.heap.size w w' := by
  have HC : Hid (Calls Try.prog 51 #[.slice A n c] w fun e w' => ∃ A1 c1, e = .returned (.slice A1 n c1) ∧ n ≤ c1 ∧ Below w.heap.size w w' ∧ RR w' A1 L ∧ (0 < n → ∃ g, A1 = some ⟨g, 0, none⟩ ∧ w.heap.size ≤ g ∧ g < w'.heap.size ∧ ∀ k, w'.frozen? ⟨g, k, none⟩ = false)) := Lib.hid (by
    obtain ⟨raw, r1, r2, r3⟩ := rr_raw h
    refine (cloneRow_any A raw n c (hn.trans r1.symm) hl w r2).mono fun e w' ⟨v, he, hb, ho⟩ => ?_
    obtain ⟨A1, c1, hv, hc1⟩ := own_formK ho
    subst hv
    refine ⟨A1, c1, he, hc1, hb, fun hne => ?_, fun h0 => ?_⟩
    · obtain ⟨b, off, e1, hlb, hcl⟩ := RK.of_own encW_len ho (hn.trans r1.symm) (fun e => by rw [e] at r1; exact hne (List.eq_nil_of_length_eq_zero r1.symm))
      refine ⟨b, off, e1, hlb, fun i hi => ?_⟩
      have hx : L[i]? = some (Ar L i) := by unfold Ar; rw [List.getElem?_eq_getElem hi]; rfl
      have hr0 := List.getElem?_eq_getElem (show i < raw.length by omega)
      obtain ⟨h3, h4, h5, h6⟩ := r3 i _ _ hr0 hx
      generalize raw[i] = r at *
      refine ⟨r.A, r.c, ?_, ?_, h6.past hb, by omega⟩
      · rw [← h3]; exact hcl i r hr0 0 _ rfl
      · rw [← h5]; exact hcl i r hr0 1 _ rfl
    · obtain ⟨g, cap, e1, hg1, hg2⟩ := World.ownsRow.form ho h0
      cases e1
      exact ⟨g, rfl, hg1, hg2, fun k => World.ownsRow.frozenAt ho k⟩)
  have HN := Lib.hid hn
  have HL := Lib.hid hr
  clear h hn hr
  go_enter Try.func41, Try.ntmps41
  go_wp2_with (go_at_call 51; (with_reducible refine (HC.out).mono ?_); rintro e w1 ⟨A1, c1, rfl, hc1, hb, hR, hg⟩; have HB1 := Lib.hid hb; have HR1 := Lib.hid hR; have HG1 := Lib.hid hg; have HC1 := Lib.hid hc1; clear hb hR hg hc1)
  go_loopw [9] (fun q wr => ∃ i : Nat, q = .int .i64 i ∧ i ≤ n ∧ Hid (RR wr A1 L ∧ Below w.heap.size w wr ∧ (0 < n → ∃ g, A1 = some ⟨g, 0, none⟩ ∧ w.heap.size ≤ g ∧ g < wr.heap.size ∧ ∀ k, wr.frozen? ⟨g, k, none⟩ = false))) (fun q _ => n - (intOf q).toNat)
  case atStart => exact ⟨0, rfl, Nat.zero_le _, Lib.hid ⟨HR1.out, HB1.out, HG1.out⟩⟩
  case round =>
    obtain ⟨i, rfl, hi, HI⟩ := hrel
    by_cases hlt : i < n
    · have hlti : (i : Int) < n := by omega
      obtain ⟨hR, hB, hG⟩ := HI.out
      obtain ⟨g, rfl, hg1, hg2, hg3⟩ := hG (by omega)
      have hiL : i < L.length := by have := HN.out; omega
      obtain ⟨b, off, e, _, hcl⟩ := hR (fun e => by rw [e] at hiL; simp at hiL)
      cases e
      obtain ⟨Ai, ci, q0, _, hrc, _⟩ := hcl i hiL
      rw [Nat.zero_add] at q0
      have hli := HL.out i hlt
      have HCC : Hid (Calls Try.prog 46 #[.slice Ai (Ar L i).c.length ci] wr fun e w' => ∃ A2 c2, e = .returned (.slice A2 (Ar L i).c.length c2) ∧ Below wr.heap.size wr w' ∧ (RR (w'.setCell ⟨g, i * 2, none⟩ (.slice A2 (Ar L i).c.length c2)) (some ⟨g, 0, none⟩) L ∧ Below w.heap.size w (w'.setCell ⟨g, i * 2, none⟩ (.slice A2 (Ar L i).c.length c2)) ∧ (0 < n → ∃ g', (some ⟨g, 0, none⟩ : Option Addr) = some ⟨g', 0, none⟩ ∧ w.heap.size ≤ g' ∧ g' < (w'.setCell ⟨g, i * 2, none⟩ (.slice A2 (Ar L i).c.length c2)).heap.size ∧ ∀ k, (w'.setCell ⟨g, i * 2, none⟩ (.slice A2 (Ar L i).c.length c2)).frozen? ⟨g', k, none⟩ = false))) := Lib.hid <| (cloneC_any Ai (Ar L i).c _ ci rfl hli wr hrc).mono fun e w' ⟨v, he, hb, ho⟩ => by
        obtain ⟨A2, c2, hv, hc2⟩ := own_formK ho
        subst hv
        refine ⟨A2, c2, he, hb, (hR.past hb).recell hiL (RC.of_own ho rfl) hc2, belW (bel0 hB hb) hg1, fun _ => ⟨g, rfl, hg1, by rw [World.size_setCell]; exact Nat.lt_of_lt_of_le hg2 hb.size, fun k => by rw [World.frozen?_setCell]; exact (hb.frozen (p := ⟨g, k, none⟩) hg2).trans (hg3 k)⟩⟩
      have HQ : Hid (∀ W, Below wr.heap.size wr W → W.cell? ⟨g, i * 2, none⟩ = some (.slice Ai (Ar L i).c.length ci) ∧ W.frozen? ⟨g, i * 2, none⟩ = false ∧ g < W.heap.size) := Lib.hid fun W hW => ⟨(hW.cell (p := ⟨g, i * 2, none⟩) hg2).trans q0, (hW.frozen (p := ⟨g, i * 2, none⟩) hg2).trans (hg3 _), Nat.lt_of_lt_of_le hg2 hW.size⟩
      clear hcl hrc hR hB hG hg3 hiL HI HC HG1 HR1
      generalize (Ar L i).c.length = len at *
      go_wp2_with (go_at_call 46; (with_reducible refine (HCC.out).mono ?_); rintro e w5 ⟨A2, c2, rfl, hb5, hE⟩; obtain ⟨q1, q2, q3⟩ := HQ.out _ hb5; have HE5 := Lib.hid hE; clear hb5 hE)
      go_roundw
      case rel => exact ⟨i + 1, by go_num, hlt, HE5⟩
      case measure => simp [intOf]; omega
    · obtain rfl : i = n := by omega
      have HI1 := Lib.hid HI.out.1
      have HI2 := Lib.hid HI.out.2.1
      clear HI
      go_wp2
      go_ret
      exact ⟨_, _, rfl, HC1.out, HI1.out, HI2.out⟩
set_option maxRecDepth 100000 in
set_option maxHeartbeats 8000000 in
/-- Reflowed to a width that may not be: copies. -/
theorem reflow_out (A Al : Option Addr) (L : List Rw) (ps : List (Int × Int)) (n c nl cl : Nat) (z : Int) (hz : ¬ (2 ≤ z ∧ z ≤ 1000)) (hn : n = L.length) (hl : n ≤ 100000) (hr : ∀ i, i < n → (Ar L i).c.length ≤ 100000) (hnl : nl = ps.length) (hll : nl ≤ 100000) (w : World) (h : RR w A L) (hp : RK encPI 2 w Al ps) :
    Calls Try.prog 25 #[.slice A n c, .int .i64 z, .slice Al nl cl] w fun e w' => ∃ A1 c1 A2 c2, e = .returned (.tuple #[.slice A1 n c1, .slice A2 nl c2]) ∧ RR w' A1 L ∧ RK encPI 2 w' A2 ps ∧ Below w.heap.size w w' := by
  have HW := Lib.hid (isWidth_any z w)
  rw [decide_eq_false hz] at HW
  have HC1 : Hid (∀ W, Below w.heap.size w W → Calls Try.prog 41 #[.slice A n c] W fun e w' => ∃ A' c', e = .returned (.slice A' n c') ∧ RR w' A' L ∧ Below W.heap.size W w') := Lib.hid fun W hW => (cloneAll_any A L n c hn hl hr W (h.past hW)).mono fun e w' ⟨A', c', he, _, hR, hb⟩ => ⟨A', c', he, hR, hb⟩
  have HC2 : Hid (∀ W, Below w.heap.size w W → Calls Try.prog 42 #[.slice Al nl cl] W fun e w' => ∃ A' c', e = .returned (.slice A' nl c') ∧ RK encPI 2 w' A' ps ∧ Below W.heap.size W w') := Lib.hid fun W hW => (clonePos_any Al ps nl cl hnl hll W (hp.past hW)).mono fun e w' ⟨v, he, hb, ho⟩ => by
    obtain ⟨A', c', hv, _⟩ := own_formK ho
    subst hv
    exact ⟨A', c', he, RK.of_own encPI_len ho hnl, hb⟩
  clear h hp hr hn hnl hz
  go_enter Try.func25, Try.ntmps25
  go_wp2_with (first
    | (go_at_call 34; (with_reducible refine (HW.out).mono ?_); rintro e w1 ⟨rfl, rfl⟩)
    | (go_at_call 41; (with_reducible refine (HC1.out _ (Below.refl _ _)).mono ?_); rintro e w2 ⟨A2, c2, rfl, hR, hb⟩; have HB2 := Lib.hid hb; have HR2 := Lib.hid hR; clear hb hR)
    | (go_at_call 42; (with_reducible refine (HC2.out _ HB2.out).mono ?_); rintro e w3 ⟨A3, c3, rfl, hK, hb⟩; have HR3 := Lib.hid (HR2.out.past hb); have HB3 := Lib.hid (bel0 HB2.out hb); have HK3 := Lib.hid hK; clear hb hK))
  refine bodyPost_ret (v := .tuple #[.slice A2 n c2, .slice A3 nl c3]) (by simp [results, Try.results25, go_sem]) rfl ?_
  exact ⟨A2, c2, A3, c3, rfl, HR3.out, HK3.out, HB3.out⟩
end Go.Proofs.Ytfjgfmeanehpmaa
