/- The document's Line and Flow. -/
import Derived.Test.YtfjgfmeanehpmaaHk
import Derived.Test.YtfjgfmeanehpmaaGj
namespace Go.Proofs.Ytfjgfmeanehpmaa
open Go.RowKit

/-- The first row of the line that a row is in. -/
def lineOf (L : List Rw) : Nat → Nat
  | 0 => 0
  | i + 1 => if (Ar L (i + 1)).k = true then lineOf L i else i + 1
theorem lineOf_le (L : List Rw) : ∀ i, lineOf L i ≤ i
  | 0 => Nat.le_refl _
  | i + 1 => by
    have := lineOf_le L i
    unfold lineOf
    split <;> omega
set_option maxRecDepth 100000 in
set_option maxHeartbeats 4000000 in
theorem line_any (A : Option Addr) (L : List Rw) (n c i : Nat) (hn : n = L.length) (hl : n ≤ 1000000000) (hi : i < n) (w : World) (h : RR w A L) :
    Calls Try.prog 13 #[.slice A n c, .int .i64 i] w fun e w' => e = .returned (.int .i64 (lineOf L i)) ∧ Below w.heap.size w w' := by
  have HR := Lib.hid h
  have HN := Lib.hid hn
  obtain ⟨z, hz⟩ : ∃ z, lineOf L i = z := ⟨_, rfl⟩
  rw [hz]
  have HZ := Lib.hid hz
  clear h hn hz
  go_enter Try.func13, Try.ntmps13
  go_wp2
  go_loopw [1] (fun q wr => ∃ j : Nat, q = .int .i64 j ∧ j < n ∧ Hid (lineOf L j = z) ∧ Hid (Below w.heap.size w wr)) (fun q _ => (intOf q).toNat)
  case atStart => exact ⟨i, rfl, hi, HZ, Lib.hid (Below.refl _ _)⟩
  case round =>
    obtain ⟨j, rfl, hj, HJ, HB⟩ := hrel
    by_cases h0 : 0 < j
    · have hji : (j : Int) < n := by omega
      obtain ⟨b, off, Ai, ci, rfl, _, hG⟩ := HR.out.at j (by have := HN.out; omega)
      obtain ⟨_, _, a1, _⟩ := hG _ HB.out
      clear hG
      obtain ⟨t, rfl⟩ : ∃ t, j = t + 1 := ⟨j - 1, by omega⟩
      have HS : Hid (lineOf L (t + 1) = if (Ar L (t + 1)).k = true then lineOf L t else t + 1) := Lib.hid rfl
      cases hk : (Ar L (t + 1)).k with
      | true =>
        rw [hk] at a1
        have HN2 : Hid (lineOf L t = z) := Lib.hid (by rw [← HJ.out, HS.out, if_pos hk])
        clear hk HS HJ
        go_wp2
        go_roundw
        case rel => exact ⟨t, by go_num, by omega, HN2, HB⟩
        case measure => simp [intOf]
      | false =>
        rw [hk] at a1
        have HN2 : Hid (((t + 1 : Nat) : Int) = z) := Lib.hid (by rw [← HJ.out, HS.out, if_neg (by rw [hk]; decide)])
        clear hk HS HJ
        go_wp2
        go_ret
        exact ⟨(by rw [← HN2.out]; try rfl), HB.out⟩
    · have HN2 : Hid ((j : Int) = z) := Lib.hid (by
        have e : j = 0 := by omega
        have := HJ.out
        rw [e] at this ⊢
        rw [← this]
        try rfl)
      have h0d : decide (0 < j) = false := decide_eq_false h0
      clear HJ
      go_wp2
      go_ret
      exact ⟨(by rw [← HN2.out]; try rfl), HB.out⟩
set_option maxRecDepth 100000 in
set_option maxHeartbeats 8000000 in
theorem refFlow_any (A : Option Addr) (L : List Rw) (n c : Nat) (hn : n = L.length) (hl : n ≤ 1000000000) (hr : ∀ i, i < n → (Ar L i).c.length ≤ 1000000000) (hf : (flat L).length ≤ 100000) (w : World) (h : RR w A L) :
    Calls Try.prog 16 #[.slice A n c] w fun e w' => ∃ v, e = .returned v ∧ OC w.heap.size w' v (flowL L) ∧ Below w.heap.size w w' := by
  have HR := Lib.hid h
  have HN := Lib.hid hn
  have HF := Lib.hid hf
  have HL := Lib.hid hr
  obtain ⟨i0, hi0, hz0, hz1, hz2⟩ := info_parts infoCell
  clear h hn hf hr
  go_enter Try.func16, Try.ntmps16
  go_wp2
  go_loopw [3, 4] (fun v q wr => ∃ (i m : Nat) (vo : Value), vo = v ∧ q = .int .i64 i ∧ i ≤ n ∧ m ≤ 100000 ∧ Hid (m = (flowAt L i 0).length ∧ wr.ownsRow w.heap.size 54 8 vo m (cellsC (flowAt L i 0))) ∧ Hid (Below w.heap.size w wr)) (fun _ q _ => n - (intOf q).toNat)
  case atStart => exact ⟨0, 0, _, rfl, rfl, Nat.zero_le _, Nat.zero_le _, Lib.hid ⟨rfl, World.ownsRow_nil _ _ _ _⟩, Lib.hid (Below.refl _ _)⟩
  case round =>
    obtain ⟨i, m, vo, rfl, rfl, hi, hm, HO, HB⟩ := hrel
    by_cases hlt : i < n
    · have hlti : (i : Int) < n := by omega
      obtain ⟨b, off, Ai, ci, rfl, _, hG⟩ := HR.out.at i (by have := HN.out; omega)
      have hkl := HL.out i hlt
      obtain ⟨nk, hnk⟩ : ∃ nk, (Ar L i).c.length = nk := ⟨_, rfl⟩
      have HNK := Lib.hid hnk
      have HG := Lib.hid hG
      rw [hnk] at hkl
      clear hG hnk
      go_wp2_with fail
      have HWA : Hid (Below w.heap.size w wr ∧ m = (flowAt L i 0).length ∧ wr.ownsRow w.heap.size 54 8 vo m (cellsC (flowAt L i 0))) := Lib.hid ⟨HB.out, HO.out.1, HO.out.2⟩
      clear HB HO
      generalize wr = wa at *
      go_loopw [3, 5] (fun v q wr => ∃ (k m : Nat) (vo : Value), vo = v ∧ q = .int .i64 k ∧ k ≤ nk ∧ m ≤ 100000 ∧ Hid (m = (flowAt L i k).length ∧ wr.ownsRow w.heap.size 54 8 vo m (cellsC (flowAt L i k))) ∧ Hid (Below w.heap.size w wr)) (fun _ q _ => nk - (intOf q).toNat)
      case atStart => exact ⟨0, m, _, rfl, rfl, Nat.zero_le _, hm, Lib.hid ⟨HWA.out.2.1, HWA.out.2.2⟩, Lib.hid HWA.out.1⟩
      case round =>
        obtain ⟨k, m1, vo, rfl, rfl, hk, hm1, HO, HB⟩ := hrel
        obtain ⟨_, r0, _, rC⟩ := HG.out _ HB.out
        rw [HNK.out] at r0
        by_cases hklt : k < nk
        · have hkli : (k : Int) < nk := by omega
          obtain ⟨b2, off2, rfl, hG⟩ := rC.at (fun e => by have := HNK.out; rw [e] at this; simp at this; omega)
          obtain ⟨_, GA⟩ := hG _ (Below.refl _ _)
          obtain ⟨a0, a1, a2, a3, a4, a5, a6, a7⟩ := GA k (by have := HNK.out; omega)
          obtain ⟨hml, hown⟩ := HO.out
          obtain ⟨Ao, co, rfl, _⟩ := own_formK hown
          have hws := HB.out.size
          have HY := fun hp => Lib.hid (flowAt_yes L i k (by have := HNK.out; omega) hp)
          have HNo := fun hp => Lib.hid (flowAt_no L i k (by have := HNK.out; omega) hp)
          have HLE := Lib.hid (flowAt_le L i (k + 1) (by have := HN.out; omega))
          clear hG GA HO HWA rC HG
          cases hp : notPad (Ac (Ar L i).c k) with
          | true =>
            have HY1 := HY hp
            have hm2 : m1 + 1 ≤ 100000 := by have h1 := HLE.out; have h2 := HF.out; rw [HY1.out, List.length_append] at h1; simp at h1; omega
            have hp3 : ((Ac (Ar L i).c k).h == 3) = false := by unfold notPad at hp; simpa using hp
            have hp4 : ((Ac (Ar L i).c k).h != 3) = true := by rw [bne, hp3]; rfl
            generalize Ac (Ar L i).c k = x at *
            have HOWN : Hid (∀ W, Below wr.heap.size wr W → W.ownsRow w.heap.size 54 8 (.slice Ao m1 co) m1 (cellsC (flowAt L i k))) := Lib.hid fun W hW => own_pastK hown hW
            have HEND : Hid (∀ W w5 v5, Below wr.heap.size wr W → w5.ownsRow w.heap.size 54 8 v5 (m1 + 1) (cellsC (flowAt L i k) ++ encC x) → W.grownBy w5 (Value.slice Ao m1 co).ownBlock → (m1 + 1 = (flowAt L i (k + 1)).length ∧ w5.ownsRow w.heap.size 54 8 v5 (m1 + 1) (cellsC (flowAt L i (k + 1)))) ∧ Below w.heap.size w w5) := Lib.hid fun W w5 v5 hW h5 hg5 =>
              ⟨⟨by rw [HY1.out, List.length_append, hml]; rfl, by rw [HY1.out, cellsC_snoc]; exact h5⟩, own_below (own_pastK hown hW) (bel0 HB.out hW) (bel0 HB.out hW).size hg5⟩
            clear hown hml HB HY HNo HY1 HLE hp
            generalize cellsC (flowAt L i k) = ol at *
            go_wp2_with (at_builtin; go_must (refine wpList_append_own _ rfl _ _ 29 rfl w.heap.size 54 i0 _ 8 72 Try.underlying29 hi0 hz0 hz1 hz2 rfl (by decide) (.slice Ao m1 co) m1 ol rfl (HOWN.out _ (belA (Below.refl _ _) _)) ⟨wr.heap.size, 0, none⟩ 1 1 (encC x) rfl rfl (news8' wr x _) (encC_one x) (by unfold maxLen; omega) (by omega) (by simp; omega) ?_; intro v5 w5 hown5 hgrow5 _; have HZ := Lib.hid (HEND.out _ _ _ (belA (Below.refl _ _) _) hown5 hgrow5); clear hown5 hgrow5))
            go_roundw
            case rel => exact ⟨k + 1, m1 + 1, _, rfl, by go_num, hklt, hm2, Lib.hid HZ.out.1, Lib.hid HZ.out.2⟩
            case measure => simp [intOf]; omega
          | false =>
            have HN1 := HNo hp
            have hp3 : ((Ac (Ar L i).c k).h == 3) = true := by unfold notPad at hp; simpa using hp
            have hp4 : ((Ac (Ar L i).c k).h != 3) = false := by rw [bne, hp3]; rfl
            generalize Ac (Ar L i).c k = x at *
            have HZ : Hid ((m1 = (flowAt L i (k + 1)).length ∧ wr.ownsRow w.heap.size 54 8 (.slice Ao m1 co) m1 (cellsC (flowAt L i (k + 1))))) := Lib.hid ⟨by rw [HN1.out]; exact hml, by rw [HN1.out]; exact hown⟩
            clear hown hml HY HNo HN1 HLE hp
            go_wp2
            go_roundw
            case rel => exact ⟨k + 1, m1, _, rfl, by go_num, hklt, hm1, HZ, HB⟩
            case measure => simp [intOf]; omega
        · obtain rfl : k = nk := by omega
          have HE : Hid (m1 = (flowAt L (i + 1) 0).length ∧ wr.ownsRow w.heap.size 54 8 vo m1 (cellsC (flowAt L (i + 1) 0))) := Lib.hid (by
            rw [← flowAt_next L i (by have := HN.out; omega), HNK.out]
            exact HO.out)
          clear HO HWA HG rC
          go_wp2
          go_roundw
          case rel => exact ⟨i + 1, m1, _, rfl, by go_num, hlt, hm1, HE, HB⟩
          case measure => simp [intOf]; omega
    · obtain rfl : i = n := by omega
      have hfl : flowAt L i 0 = flat L := by rw [flowAt_zero, HN.out, List.take_length]
      obtain ⟨hml, hown⟩ := HO.out
      rw [hfl] at hml hown
      obtain ⟨Ao, co, rfl, _⟩ := own_formK hown
      have HM : Hid (Calls Try.prog 28 #[.slice Ao m co] wr fun e w' => ∃ A' c', e = .returned (.slice A' m c') ∧ m ≤ c' ∧ OC w.heap.size w' (.slice A' m c') (mendL (flat L)) ∧ RC w' w'.heap.size A' (mendL (flat L)) ∧ Below w.heap.size w w') := Lib.hid <| (refMend_big Ao (flat L) m co hml hm wr (RC.of_own hown hml)).mono fun e w' ⟨v, he, ho, hb⟩ => by
        obtain ⟨A', c', hv, hc', hr⟩ := ho.form'
        rw [mendL_len, ← hml] at hv hc'
        subst hv
        exact ⟨A', c', he, hc', ho.more HB.out.size, hr, bel0 HB.out hb⟩
      have HU : Hid (∀ W A' c', RC W W.heap.size A' (mendL (flat L)) → Calls Try.prog 29 #[.slice A' m c'] W fun e w' => e = .returned (.int .i64 (usedL (mendL (flat L)))) ∧ Below W.heap.size W w') := Lib.hid fun W A' c' h => refUsed_any A' (mendL (flat L)) m c' (by rw [mendL_len]; exact hml) (by omega) W h
      have hul : usedL (mendL (flat L)) ≤ m := by have := used_le (mendL (flat L)); rw [mendL_len] at this; omega
      have HEND : Hid (∀ W A' c', OC w.heap.size W (.slice A' m c') (mendL (flat L)) → OC w.heap.size W (.slice A' (usedL (mendL (flat L))) c') (flowL L)) := Lib.hid fun W A' c' h => h.cut _ (used_le _)
      clear hfl hml hown HO
      generalize usedL (mendL (flat L)) = u at *
      generalize mendL (flat L) = ml at *
      go_wp2_with (first
        | (go_at_call 28; (with_reducible refine (HM.out).mono ?_); rintro e w1 ⟨A', c', rfl, hc', ho, hr, hb⟩; have HB1 := Lib.hid hb; have HO1 := Lib.hid ho; have HR1 := Lib.hid hr; have huc : u ≤ c' := Nat.le_trans hul hc'; clear hb ho hr)
        | (go_at_call 29; (with_reducible refine (HU.out _ _ _ HR1.out).mono ?_); rintro e w2 ⟨rfl, hb⟩; have HB2 := Lib.hid (bel0 HB1.out hb); have HO2 := Lib.hid (HEND.out _ _ _ (HO1.out.past hb)); clear hb))
      go_ret
      exact ⟨_, rfl, HO2.out, HB2.out⟩
end Go.Proofs.Ytfjgfmeanehpmaa
