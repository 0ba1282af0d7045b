/- The walk of flow.Flow. -/
import Derived.Test.YtfjgfmeanehpmaaHd
namespace Go.Proofs.Ytfjgfmeanehpmaa
open Go.RowKit

theorem flat_take (L : List Rw) (i : Nat) (h : i < L.length) : flat (L.take (i + 1)) = flat (L.take i) ++ (Ar L i).c.filter notPad := by
  rw [List.take_succ_eq_append_getElem h, flat_app]
  unfold Ar
  rw [List.getElem?_eq_getElem h]
  simp [flat]
theorem flat_take_le (L : List Rw) (i : Nat) : (flat (L.take i)).length ≤ (flat L).length := by
  conv => rhs; rw [← List.take_append_drop i L, flat_app]
  simp
theorem filter_take (l : List CC) (k : Nat) (h : k < l.length) : (l.take (k + 1)).filter notPad = (l.take k).filter notPad ++ (if notPad (Ac l k) = true then [Ac l k] else []) := by
  rw [List.take_succ_eq_append_getElem h, List.filter_append]
  unfold Ac
  rw [List.getElem?_eq_getElem h]
  simp [List.filter_cons]
theorem filter_take_le (l : List CC) (k : Nat) : ((l.take k).filter notPad).length ≤ (l.filter notPad).length := by
  conv => rhs; rw [← List.take_append_drop k l, List.filter_append]
  simp
/-- What Flow has collected so far, of some rows and a part of the next one. -/
def flowAt (L : List Rw) (i k : Nat) : List CC := flat (L.take i) ++ ((Ar L i).c.take k).filter notPad
theorem flowAt_zero (L : List Rw) (i : Nat) : flowAt L i 0 = flat (L.take i) := by unfold flowAt; simp
theorem flowAt_next (L : List Rw) (i : Nat) (h : i < L.length) : flowAt L i (Ar L i).c.length = flowAt L (i + 1) 0 := by
  rw [flowAt_zero, flat_take L i h]
  unfold flowAt
  rw [List.take_length]
theorem flowAt_yes (L : List Rw) (i k : Nat) (h : k < (Ar L i).c.length) (hp : notPad (Ac (Ar L i).c k) = true) : flowAt L i (k + 1) = flowAt L i k ++ [Ac (Ar L i).c k] := by
  unfold flowAt
  rw [filter_take _ k h, if_pos hp, List.append_assoc]
theorem flowAt_no (L : List Rw) (i k : Nat) (h : k < (Ar L i).c.length) (hp : notPad (Ac (Ar L i).c k) = false) : flowAt L i (k + 1) = flowAt L i k := by
  unfold flowAt
  rw [filter_take _ k h, if_neg (by rw [hp]; decide), List.append_nil]
theorem flowAt_le (L : List Rw) (i k : Nat) (h : i < L.length) : (flowAt L i k).length ≤ (flat L).length := by
  have h1 := filter_take_le (Ar L i).c k
  have h2 := flat_take_le L (i + 1)
  rw [flat_take L i h] at h2
  unfold flowAt
  simp at h2 ⊢
  omega
theorem MC.take {w : World} {g : Nat} {l : List CC} (h : MC w g l) (u : Nat) : MC w g (l.take u) :=
  ⟨h.row, fun k hk => by
    have hk : k < u ∧ k < l.length := by simp at hk; omega
    have e : Ac (l.take u) k = Ac l k := by unfold Ac; rw [List.getElem?_take, if_pos hk.1]
    rw [e]
    exact h.at' k hk.2⟩
theorem OC.cut {B n c : Nat} {w : World} {A : Option Addr} {l : List CC} (h : OC B w (.slice A n c) l) (u : Nat) (hu : u ≤ l.length) : OC B w (.slice A u c) (l.take u) := by
  rcases h with ⟨rfl, A', c', e⟩ | ⟨g, c', e, h1, h2, h3⟩
  · obtain rfl : u = 0 := by simpa using hu
    exact .inl ⟨rfl, A, c, rfl⟩
  · injection e with e1 e2 e3
    subst e1; subst e2; subst e3
    exact .inr ⟨g, c, by rw [List.length_take, Nat.min_eq_left hu], h1, by rw [List.length_take]; omega, h3.take u⟩
theorem OC.form' {B : Nat} {w : World} {v : Value} {l : List CC} (h : OC B w v l) : ∃ A c, v = .slice A l.length c ∧ l.length ≤ c ∧ RC w w.heap.size A l := by
  rcases h with ⟨rfl, A, c, rfl⟩ | ⟨g, c, rfl, _, hc, hM⟩
  · exact ⟨A, c, rfl, Nat.zero_le _, fun h => absurd rfl h⟩
  · exact ⟨_, c, rfl, hc, fun _ => ⟨g, 0, rfl, hM.lt, fun k hk => by rw [Nat.zero_add]; exact hM.at' k hk⟩⟩
theorem OC.more {B B' : Nat} {w : World} {v : Value} {l : List CC} (h : OC B w v l) (hB : B' ≤ B) : OC B' w v l := h.imp id fun ⟨g, c, h1, h2, h3⟩ => ⟨g, c, h1, Nat.le_trans hB h2, h3⟩
theorem news8' (W : World) (x : CC) (t : TypeId) : ∀ (j : Nat) (u : Value), (encC x)[j]? = some u → (W.alloc (.cells #[.int .i32 x.r, .string x.m, .int .i64 x.h, .int .i64 x.fk, .int .i64 x.fn, .int .i64 x.bk, .int .i64 x.bn, .int .i64 x.fl] t)).cell? ((⟨W.heap.size, 0, none⟩ : Addr).add j) = some u := fun j u hj => by
  have hadd : ((⟨W.heap.size, 0, none⟩ : Addr).add j) = ⟨W.heap.size, j, none⟩ := by
    unfold Addr.add
    by_cases h1 : j = 0 <;> simp [h1]
  rw [hadd, cell_of_row _ _ j _ _ _ (heap_alloc_new W _), ← hj]
  simp [encC]
set_option maxRecDepth 100000 in
set_option maxHeartbeats 8000000 in
theorem flow_any (A : Option Addr) (L : List Rw) (n c : Nat) (hn : n = L.length) (hl : n ≤ 1000000000) (hr : ∀ i, i < n → (Ar L i).c.length ≤ 1000000000) (hf : (flat L).length ≤ 100000) (w : World) (h : RR w A L) :
    Calls Try.prog 15 #[.slice A n c] w fun e w' => ∃ v, e = .returned v ∧ OC w.heap.size w' v (flowL L) ∧ Below w.heap.size w w' := by
  have HR := Lib.hid h
  have HN := Lib.hid hn
  have HF := Lib.hid hf
  have HL := Lib.hid hr
  obtain ⟨i0, hi0, hz0, hz1, hz2⟩ := info_parts infoCell
  clear h hn hf hr
  go_enter Try.func15, Try.ntmps15
  go_wp2
  go_loopw [3, 10] (fun v q wr => ∃ (i m : Nat) (vo : Value), vo = v ∧ q = .int .i64 i ∧ i ≤ n ∧ m ≤ 100000 ∧ Hid (m = (flowAt L i 0).length ∧ wr.ownsRow w.heap.size 54 8 vo m (cellsC (flowAt L i 0))) ∧ Hid (Below w.heap.size w wr)) (fun _ q _ => n - (intOf q).toNat)
  case atStart => exact ⟨0, 0, _, rfl, rfl, Nat.zero_le _, Nat.zero_le _, Lib.hid ⟨rfl, World.ownsRow_nil _ _ _ _⟩, Lib.hid (Below.refl _ _)⟩
  case round =>
    obtain ⟨i, m, vo, rfl, rfl, hi, hm, HO, HB⟩ := hrel
    by_cases hlt : i < n
    · have hlti : (i : Int) < n := by omega
      obtain ⟨b, off, Ai, ci, rfl, _, hG⟩ := HR.out.at i (by have := HN.out; omega)
      obtain ⟨_, a0, a1, _⟩ := hG _ HB.out
      have hkl := HL.out i hlt
      have HRC : Hid (∀ W, Below w.heap.size w W → RC W W.heap.size Ai (Ar L i).c) := Lib.hid fun W hW => (hG W hW).2.2.2
      obtain ⟨nk, hnk⟩ : ∃ nk, (Ar L i).c.length = nk := ⟨_, rfl⟩
      have HNK := Lib.hid hnk
      rw [hnk] at a0 hkl
      generalize (Ar L i).k = kk at *
      clear hG hnk
      have HWA : Hid (Below w.heap.size w (wr.alloc (.cells #[.slice Ai nk ci, .bool kk] 31)) ∧ m = (flowAt L i 0).length ∧ (wr.alloc (.cells #[.slice Ai nk ci, .bool kk] 31)).ownsRow w.heap.size 54 8 vo m (cellsC (flowAt L i 0))) := Lib.hid ⟨belA HB.out _, HO.out.1, own_pastK HO.out.2 (belA (Below.refl _ _) _)⟩
      go_wp2_with fail
      clear a0 a1 HB HO
      generalize wr.alloc (.cells #[.slice Ai nk ci, .bool kk] 31) = wa at *
      go_loopw [3, 17] (fun v q wr => ∃ (k m : Nat) (vo : Value), vo = v ∧ q = .int .i64 k ∧ k ≤ nk ∧ m ≤ 100000 ∧ Hid (m = (flowAt L i k).length ∧ wr.ownsRow w.heap.size 54 8 vo m (cellsC (flowAt L i k))) ∧ Hid (Below w.heap.size w wr)) (fun _ q _ => nk - (intOf q).toNat)
      case atStart => exact ⟨0, m, _, rfl, rfl, Nat.zero_le _, hm, Lib.hid ⟨HWA.out.2.1, HWA.out.2.2⟩, Lib.hid HWA.out.1⟩
      case round =>
        obtain ⟨k, m1, vo, rfl, rfl, hk, hm1, HO, HB⟩ := hrel
        by_cases hklt : k < nk
        · have hkli : (k : Int) < nk := by omega
          obtain ⟨b2, off2, rfl, hG⟩ := (HRC.out _ HB.out).at (fun e => by have := HNK.out; rw [e] at this; simp at this; omega)
          obtain ⟨_, GA⟩ := hG _ (Below.refl _ _)
          obtain ⟨a0, a1, a2, a3, a4, a5, a6, a7⟩ := GA k (by have := HNK.out; omega)
          obtain ⟨hml, hown⟩ := HO.out
          obtain ⟨Ao, co, rfl, _⟩ := own_formK hown
          have hws := HB.out.size
          have HY := fun hp => Lib.hid (flowAt_yes L i k (by have := HNK.out; omega) hp)
          have HNo := fun hp => Lib.hid (flowAt_no L i k (by have := HNK.out; omega) hp)
          have HLE := Lib.hid (flowAt_le L i (k + 1) (by have := HN.out; omega))
          clear hG GA HO HWA
          cases hp : notPad (Ac (Ar L i).c k) with
          | true =>
            have HY1 := HY hp
            have HT := fun W => Lib.hid (isPad_any (Ac (Ar L i).c k) false (by rw [hp]; rfl) W)
            have hm2 : m1 + 1 ≤ 100000 := by have h1 := HLE.out; have h2 := HF.out; rw [HY1.out, List.length_append] at h1; simp at h1; omega
            generalize Ac (Ar L i).c k = x at *
            have HOWN : Hid (∀ W, Below wr.heap.size wr W → W.ownsRow w.heap.size 54 8 (.slice Ao m1 co) m1 (cellsC (flowAt L i k))) := Lib.hid fun W hW => own_pastK hown hW
            have HEND : Hid (∀ W w5 v5, Below wr.heap.size wr W → w5.ownsRow w.heap.size 54 8 v5 (m1 + 1) (cellsC (flowAt L i k) ++ encC x) → W.grownBy w5 (Value.slice Ao m1 co).ownBlock → (m1 + 1 = (flowAt L i (k + 1)).length ∧ w5.ownsRow w.heap.size 54 8 v5 (m1 + 1) (cellsC (flowAt L i (k + 1)))) ∧ Below w.heap.size w w5) := Lib.hid fun W w5 v5 hW h5 hg5 =>
              ⟨⟨by rw [HY1.out, List.length_append, hml]; rfl, by rw [HY1.out, cellsC_snoc]; exact h5⟩, own_below (own_pastK hown hW) (bel0 HB.out hW) (bel0 HB.out hW).size hg5⟩
            clear hown hml HB HY HNo HY1 HLE hp
            generalize cellsC (flowAt L i k) = ol at *
            go_wp2_with (first
              | (go_at_call 31; (with_reducible refine ((HT _).out).mono ?_); rintro e w1 ⟨rfl, hb⟩; obtain ⟨hc1, hf1⟩ := bcell hb; have hsz := hb.size; simp only [World.size_alloc] at hsz; have HB1 := Lib.hid (bel1 (Below.refl _ _) hb); clear hb)
              | (at_builtin; go_must (refine wpList_append_own _ rfl _ _ 29 rfl w.heap.size 54 i0 _ 8 72 Try.underlying29 hi0 hz0 hz1 hz2 rfl (by decide) (.slice Ao m1 co) m1 ol rfl (HOWN.out _ (belA HB1.out _)) ⟨w1.heap.size, 0, none⟩ 1 1 (encC x) rfl rfl (news8' w1 x _) (encC_one x) (by unfold maxLen; omega) (by omega) (by simp; omega) ?_; intro v5 w5 hown5 hgrow5 _; have HZ := Lib.hid (HEND.out _ _ _ (belA HB1.out _) hown5 hgrow5); clear hown5 hgrow5)))
            go_roundw
            case rel => exact ⟨k + 1, m1 + 1, _, rfl, by go_num, hklt, hm2, Lib.hid HZ.out.1, Lib.hid HZ.out.2⟩
            case measure => simp [intOf]; omega
          | false =>
            have HN1 := HNo hp
            have HT := fun W => Lib.hid (isPad_any (Ac (Ar L i).c k) true (by rw [hp]; rfl) W)
            generalize Ac (Ar L i).c k = x at *
            have HZ : Hid (∀ W, Below wr.heap.size wr W → (m1 = (flowAt L i (k + 1)).length ∧ W.ownsRow w.heap.size 54 8 (.slice Ao m1 co) m1 (cellsC (flowAt L i (k + 1)))) ∧ Below w.heap.size w W) := Lib.hid fun W hW => ⟨⟨by rw [HN1.out]; exact hml, by rw [HN1.out]; exact own_pastK hown hW⟩, bel0 HB.out hW⟩
            clear hown hml HB HY HNo HN1 HLE hp
            go_wp2_with (go_at_call 31; (with_reducible refine ((HT _).out).mono ?_); rintro e w1 ⟨rfl, hb⟩; have HZ1 := Lib.hid (HZ.out _ (bel1 (Below.refl _ _) hb)); clear hb)
            go_roundw
            case rel => exact ⟨k + 1, m1, _, rfl, by go_num, hklt, hm1, Lib.hid HZ1.out.1, Lib.hid HZ1.out.2⟩
            case measure => simp [intOf]; omega
        · obtain rfl : k = nk := by omega
          have HE : Hid (m1 = (flowAt L (i + 1) 0).length ∧ wr.ownsRow w.heap.size 54 8 vo m1 (cellsC (flowAt L (i + 1) 0))) := Lib.hid (by
            rw [← flowAt_next L i (by have := HN.out; omega), HNK.out]
            exact HO.out)
          clear HO HWA
          go_wp2
          go_roundw
          case rel => exact ⟨i + 1, m1, _, rfl, by go_num, hlt, hm1, HE, HB⟩
          case measure => simp [intOf]; omega
    · obtain rfl : i = n := by omega
      have hfl : flowAt L i 0 = flat L := by rw [flowAt_zero, HN.out, List.take_length]
      obtain ⟨hml, hown⟩ := HO.out
      rw [hfl] at hml hown
      obtain ⟨Ao, co, rfl, _⟩ := own_formK hown
      have HM : Hid (Calls Try.prog 32 #[.slice Ao m co] wr fun e w' => ∃ A' c', e = .returned (.slice A' m c') ∧ m ≤ c' ∧ OC w.heap.size w' (.slice A' m c') (mendL (flat L)) ∧ RC w' w'.heap.size A' (mendL (flat L)) ∧ Below w.heap.size w w') := Lib.hid <| (mend_big Ao (flat L) m co hml hm wr (RC.of_own hown hml)).mono fun e w' ⟨v, he, ho, hb⟩ => by
        obtain ⟨A', c', hv, hc', hr⟩ := ho.form'
        rw [mendL_len, ← hml] at hv hc'
        subst hv
        exact ⟨A', c', he, hc', ho.more HB.out.size, hr, bel0 HB.out hb⟩
      have HU : Hid (∀ W A' c', RC W W.heap.size A' (mendL (flat L)) → Calls Try.prog 33 #[.slice A' m c'] W fun e w' => e = .returned (.int .i64 (usedL (mendL (flat L)))) ∧ Below W.heap.size W w') := Lib.hid fun W A' c' h => used_any A' (mendL (flat L)) m c' (by rw [mendL_len]; exact hml) (by omega) W h
      have hul : usedL (mendL (flat L)) ≤ m := by have := used_le (mendL (flat L)); rw [mendL_len] at this; omega
      have HEND : Hid (∀ W A' c', OC w.heap.size W (.slice A' m c') (mendL (flat L)) → OC w.heap.size W (.slice A' (usedL (mendL (flat L))) c') (flowL L)) := Lib.hid fun W A' c' h => h.cut _ (used_le _)
      clear hfl hml hown HO
      generalize usedL (mendL (flat L)) = u at *
      generalize mendL (flat L) = ml at *
      go_wp2_with (first
        | (go_at_call 32; (with_reducible refine (HM.out).mono ?_); rintro e w1 ⟨A', c', rfl, hc', ho, hr, hb⟩; have HB1 := Lib.hid hb; have HO1 := Lib.hid ho; have HR1 := Lib.hid hr; have huc : u ≤ c' := Nat.le_trans hul hc'; clear hb ho hr)
        | (go_at_call 33; (with_reducible refine (HU.out _ _ _ HR1.out).mono ?_); rintro e w2 ⟨rfl, hb⟩; have HB2 := Lib.hid (bel0 HB1.out hb); have HO2 := Lib.hid (HEND.out _ _ _ (HO1.out.past hb)); clear hb))
      go_ret
      exact ⟨_, rfl, HO2.out, HB2.out⟩
end Go.Proofs.Ytfjgfmeanehpmaa
