/- The laws FlowSplits, FlowBack. -/
import Derived.Test.YtfjgfmeanehpmaaHq
import Derived.Test.YtfjgfmeanehpmaaHr
namespace Go.Proofs.Ytfjgfmeanehpmaa
open Go.RowKit

theorem lay_rows (m : Nat) (h2 : 2 ≤ m) (l : List CC) : (∀ i, i < (splitL m l).length → (Ar (splitL m l) i).c.length = m) ∧ (splitL m l).length ≤ l.length + 1 := by
  have h1 := lay_cols m h2 (mendL (unpad l)) false [] (by simp)
  have h3 := lay_len m (mendL (unpad l)) false []
  rw [mendL_len, unpad_len] at h3
  refine ⟨fun i hi => ?_, h3.2⟩
  unfold Ar
  rw [List.getElem?_eq_getElem hi]
  exact h1 _ (List.getElem_mem hi)
set_option maxRecDepth 100000 in
set_option maxHeartbeats 8000000 in
theorem flowSplits_law (A : Option Addr) (l : List CC) (n c : Nat) (z : Int) (hn : n = l.length) (hl : n ≤ 140737488355328) (w : World) (h : RC w w.heap.size A l) :
    Calls Try.prog 4 #[.slice A n c, .int .i64 z] w fun e w' => e = .returned (.bool true) ∧ Below w.heap.size w w' := by
  have HA := fun W => Lib.hid (awake_any W)
  by_cases h4 : 400 < n
  · have d4 : decide (400 < n) = true := decide_eq_true h4
    have d4i : decide ((400 : Int) < n) = true := decide_eq_true (by omega)
    clear h hn
    go_enter Try.func4, Try.ntmps4
    go_wp2_with (go_at_call 11; (with_reducible refine ((HA _).out).mono ?_); rintro e w2 ⟨rfl, hb⟩; have HB2 := Lib.hid hb; clear hb)
    go_ret
    exact ⟨rfl, HB2.out⟩
  · have d4 : decide (400 < n) = false := decide_eq_false h4
    have d4i : decide ((400 : Int) < n) = false := decide_eq_false (by omega)
    have HF := fun W => Lib.hid (fits_any z W)
    by_cases hz : 2 ≤ z ∧ z ≤ 1000
    · obtain ⟨m, rfl⟩ : ∃ m : Nat, z = m := ⟨z.toNat, by omega⟩
      obtain ⟨r1, r2⟩ := lay_rows m (by omega) l
      have hF := HF
      rw [decide_eq_true hz] at hF
      have HS1 : Hid (∀ W, Below w.heap.size w W → Calls Try.prog 17 #[.slice A n c, .int .i64 m] W fun e w' => ∃ A' c', e = .returned (.slice A' (splitL m l).length c') ∧ RR w' A' (splitL m l) ∧ Below w.heap.size w w') := Lib.hid fun W hW => (split_any A l n c m hn (by omega) (by omega) (by omega) W (h.past hW)).mono fun e w' ⟨v, he, ho, hb⟩ => by
        obtain ⟨A', c', hv, _⟩ := ho.form
        subst hv
        exact ⟨A', c', he, ho.read.2, bel0 hW hb⟩
      have HS2 : Hid (∀ W, Below w.heap.size w W → Calls Try.prog 20 #[.slice A n c, .int .i64 m] W fun e w' => ∃ A' c', e = .returned (.slice A' (splitL m l).length c') ∧ RR w' A' (splitL m l) ∧ Below W.heap.size W w') := Lib.hid fun W hW => (refSplit_any A l n c m hn (by omega) (by omega) (by omega) W (h.past hW)).mono fun e w' ⟨v, he, ho, hb⟩ => by
        obtain ⟨A', c', hv, _⟩ := ho.form
        subst hv
        exact ⟨A', c', he, ho.read.2, hb⟩
      have HSM : Hid (∀ W A1 A2 c1 c2, RR W A1 (splitL m l) → RR W A2 (splitL m l) → Calls Try.prog 19 #[.slice A1 (splitL m l).length c1, .slice A2 (splitL m l).length c2] W fun e w' => e = .returned (.bool true) ∧ Below W.heap.size W w') := Lib.hid fun W A1 A2 c1 c2 h1 h2 => same8_any A1 A2 (splitL m l) _ c1 c2 rfl (by omega) (fun i hi => by rw [r1 i hi]; omega) W h1 h2
      clear h hn r1 r2 hz HF
      generalize (splitL m l).length = ln at *
      go_enter Try.func4, Try.ntmps4
      go_wp2_with (first
        | (go_at_call 11; (with_reducible refine ((HA _).out).mono ?_); rintro e w2 ⟨rfl, hb⟩; have HB2 := Lib.hid hb; clear hb)
        | (go_at_call 17; (with_reducible refine (HS1.out _ HB2.out).mono ?_); rintro e w3 ⟨A3, c3, rfl, hr, hb⟩; have HB3 := Lib.hid hb; have HR3 := Lib.hid hr; clear hb hr)
        | (go_at_call 18; (with_reducible refine ((hF _).out).mono ?_); rintro e w4 ⟨rfl, rfl⟩)
        | (go_at_call 20; (with_reducible refine (HS2.out _ HB3.out).mono ?_); rintro e w5 ⟨A5, c5, rfl, hr, hb⟩; have HB5 := Lib.hid (bel0 HB3.out hb); have HR5 := Lib.hid hr; have HR35 := Lib.hid (HR3.out.past hb); clear hb hr)
        | (go_at_call 19; (with_reducible refine (HSM.out _ _ _ _ _ HR35.out HR5.out).mono ?_); rintro e w6 ⟨rfl, hb⟩; have HB6 := Lib.hid (bel0 HB5.out hb); clear hb))
      go_ret
      exact ⟨rfl, HB6.out⟩
    · have hF := HF
      rw [decide_eq_false hz] at hF
      have HS1 := fun W => Lib.hid ((split_none A n c z hz W).mono fun e w' ⟨h1, h2⟩ => (⟨h1, h2.symm⟩ : e = Ending.returned (.slice none 0 0) ∧ W = w'))
      clear h hn hz HF
      go_enter Try.func4, Try.ntmps4
      go_wp2_with (first
        | (go_at_call 11; (with_reducible refine ((HA _).out).mono ?_); rintro e w2 ⟨rfl, hb⟩; have HB2 := Lib.hid hb; clear hb)
        | (go_at_call 17; (with_reducible refine ((HS1 _).out).mono ?_); rintro e w3 ⟨rfl, rfl⟩)
        | (go_at_call 18; (with_reducible refine ((hF _).out).mono ?_); rintro e w4 ⟨rfl, rfl⟩))
      go_ret
      exact ⟨rfl, HB2.out⟩
/-- What flows of what was laid is no longer than what was laid, and one row more. -/
theorem flat_lay_len (n : Nat) : ∀ (l : List CC) (k : Bool) (cur : List CC), (flat (lay n k cur l)).length ≤ cur.length + l.length + n
  | [], k, cur => by
    have h := List.length_filter_le notPad (cur ++ List.replicate (n - cur.length) CC.zero)
    simp [lay, flat] at h ⊢
    omega
  | x :: t, k, cur => by
    have hc := List.length_filter_le notPad cur
    unfold lay
    split
    · have := flat_lay_len n t true [x]
      have e : ([padF] : List CC).filter notPad = [] := rfl
      simp [flat, List.filter_append, e] at this ⊢
      omega
    · split
      · have := flat_lay_len n t true [x]
        simp [flat] at this ⊢
        omega
      · have := flat_lay_len n t k (cur ++ [x])
        simp at this ⊢
        omega
set_option maxRecDepth 100000 in
set_option maxHeartbeats 8000000 in
theorem flowBack_law (A : Option Addr) (l : List CC) (n c : Nat) (z : Int) (hn : n = l.length) (hl : n ≤ 140737488355328) (w : World) (h : RC w w.heap.size A l) :
    Calls Try.prog 7 #[.slice A n c, .int .i64 z] w fun e w' => e = .returned (.bool true) ∧ Below w.heap.size w w' := by
  have HA := fun W => Lib.hid (awake_any W)
  by_cases h4 : 400 < n
  · have d4 : decide (400 < n) = true := decide_eq_true h4
    have d4i : decide ((400 : Int) < n) = true := decide_eq_true (by omega)
    clear h hn
    go_enter Try.func7, Try.ntmps7
    go_wp2_with (go_at_call 11; (with_reducible refine ((HA _).out).mono ?_); rintro e w2 ⟨rfl, hb⟩; have HB2 := Lib.hid hb; clear hb)
    go_ret
    exact ⟨rfl, HB2.out⟩
  · have d4 : decide (400 < n) = false := decide_eq_false h4
    have d4i : decide ((400 : Int) < n) = false := decide_eq_false (by omega)
    by_cases hz : 2 ≤ z ∧ z ≤ 1000
    · obtain ⟨m, rfl⟩ : ∃ m : Nat, z = m := ⟨z.toNat, by omega⟩
      have hF := fun W => Lib.hid (fits_any (m : Int) W)
      rw [decide_eq_true hz] at hF
      have HR := Lib.hid h
      have HN := Lib.hid hn
      obtain ⟨i0, hi0, hz0, hz1, hz2⟩ := info_parts infoCell
      clear h hn
      go_enter Try.func7, Try.ntmps7
      go_wp2_with (first
        | (go_at_call 11; (with_reducible refine ((HA _).out).mono ?_); rintro e w2 ⟨rfl, hb⟩; have HB2 := Lib.hid hb; clear hb)
        | (go_at_call 18; (with_reducible refine ((hF _).out).mono ?_); rintro e w4 ⟨rfl, rfl⟩))
      clear HA hF
      go_loopw [5, 6] (fun v q wr => ∃ (i p : Nat) (vo : Value), vo = v ∧ q = .int .i64 i ∧ i ≤ n ∧ p ≤ i ∧ Hid (p = ((l.take i).filter notPad).length ∧ wr.ownsRow w.heap.size 54 8 vo p (cellsC ((l.take i).filter notPad))) ∧ Hid (Below w.heap.size w wr)) (fun _ q _ => n - (intOf q).toNat)
      case atStart => exact ⟨0, 0, _, rfl, rfl, Nat.zero_le _, Nat.le_refl _, Lib.hid ⟨rfl, World.ownsRow_nil _ _ _ _⟩, HB2⟩
      case round =>
        obtain ⟨i, p, vo, rfl, rfl, hi, hpi, HO, HB⟩ := hrel
        by_cases hlt : i < n
        · have hlti : (i : Int) < n := by omega
          obtain ⟨b2, off2, rfl, hG⟩ := (HR.out.past HB.out).at (fun e => by have := HN.out; rw [e] at this; simp at this; omega)
          obtain ⟨_, GA⟩ := hG _ (Below.refl _ _)
          obtain ⟨a0, a1, a2, a3, a4, a5, a6, a7⟩ := GA i (by have := HN.out; omega)
          obtain ⟨hml, hown⟩ := HO.out
          obtain ⟨Ao, co, rfl, _⟩ := own_formK hown
          have hws := HB.out.size
          have HFT := Lib.hid (filter_take l i (by have := HN.out; omega))
          clear hG GA HO
          cases hp : notPad (Ac l i) with
          | true =>
            have HFT1 : Hid ((l.take (i + 1)).filter notPad = (l.take i).filter notPad ++ [Ac l i]) := Lib.hid (by rw [HFT.out, if_pos hp])
            have hp3 : ((Ac l i).h == 3) = false := by unfold notPad at hp; simpa using hp
            have hp4 : ((Ac l i).h != 3) = true := by rw [bne, hp3]; rfl
            generalize Ac l i = x at *
            have HOWN : Hid (∀ W, Below wr.heap.size wr W → W.ownsRow w.heap.size 54 8 (.slice Ao p co) p (cellsC ((l.take i).filter notPad))) := Lib.hid fun W hW => own_pastK hown hW
            have HEND : Hid (∀ W w5 v5, Below wr.heap.size wr W → w5.ownsRow w.heap.size 54 8 v5 (p + 1) (cellsC ((l.take i).filter notPad) ++ encC x) → W.grownBy w5 (Value.slice Ao p co).ownBlock → (p + 1 = ((l.take (i + 1)).filter notPad).length ∧ w5.ownsRow w.heap.size 54 8 v5 (p + 1) (cellsC ((l.take (i + 1)).filter notPad))) ∧ Below w.heap.size w w5) := Lib.hid fun W w5 v5 hW h5 hg5 =>
              ⟨⟨by rw [HFT1.out, List.length_append, hml]; rfl, by rw [HFT1.out, cellsC_snoc]; exact h5⟩, own_below (own_pastK hown hW) (bel0 HB.out hW) (bel0 HB.out hW).size hg5⟩
            clear hown hml HFT HFT1 hp
            generalize cellsC ((l.take i).filter notPad) = ol at *
            go_wp2_with (at_builtin; go_must (refine wpList_append_own _ rfl _ _ 29 rfl w.heap.size 54 i0 _ 8 72 Try.underlying29 hi0 hz0 hz1 hz2 rfl (by decide) (.slice Ao p co) p ol rfl (HOWN.out _ (belA (Below.refl _ _) _)) ⟨wr.heap.size, 0, none⟩ 1 1 (encC x) rfl rfl (news8' wr x _) (encC_one x) (by unfold maxLen; omega) (by omega) (by simp; omega) ?_; intro v5 w5 hown5 hgrow5 _; have HZ := Lib.hid (HEND.out _ _ _ (belA (Below.refl _ _) _) hown5 hgrow5); clear hown5 hgrow5))
            go_roundw
            case rel => exact ⟨i + 1, p + 1, _, rfl, by go_num, hlt, by omega, Lib.hid HZ.out.1, Lib.hid HZ.out.2⟩
            case measure => simp [intOf]; omega
          | false =>
            have HFT1 : Hid ((l.take (i + 1)).filter notPad = (l.take i).filter notPad) := Lib.hid (by rw [HFT.out, if_neg (by rw [hp]; decide), List.append_nil])
            have hp3 : ((Ac l i).h == 3) = true := by unfold notPad at hp; simpa using hp
            have hp4 : ((Ac l i).h != 3) = false := by rw [bne, hp3]; rfl
            generalize Ac l i = x at *
            have HZ : Hid (p = ((l.take (i + 1)).filter notPad).length ∧ wr.ownsRow w.heap.size 54 8 (.slice Ao p co) p (cellsC ((l.take (i + 1)).filter notPad))) := Lib.hid ⟨by rw [HFT1.out]; exact hml, by rw [HFT1.out]; exact hown⟩
            clear hown hml HFT HFT1 hp
            go_wp2
            go_roundw
            case rel => exact ⟨i + 1, p, _, rfl, by go_num, hlt, by omega, HZ, HB⟩
            case measure => simp [intOf]; omega
        · obtain rfl : i = n := by omega
          obtain ⟨hml, hown⟩ := HO.out
          rw [HN.out, List.take_length] at hml hown
          have hnp : ∀ x ∈ l.filter notPad, notPad x = true := fun x hx => (List.mem_filter.1 hx).2
          have hfs := flow_split m (l.filter notPad) hnp
          obtain ⟨r1, r2⟩ := lay_rows m (by omega) (l.filter notPad)
          have hfl := flat_lay_len m (mendL (unpad (l.filter notPad))) false []
          rw [mendL_len, unpad_len] at hfl
          generalize l.filter notPad = P at *
          obtain ⟨Ao, co, rfl, _⟩ := own_formK hown
          have hul : usedL (mendL P) ≤ p := by have := used_le (mendL P); rw [mendL_len] at this; omega
          have HM : Hid (Calls Try.prog 28 #[.slice Ao p co] wr fun e w' => ∃ A' c', e = .returned (.slice A' p c') ∧ p ≤ c' ∧ RC w' w'.heap.size A' (mendL P) ∧ OC wr.heap.size w' (.slice A' p c') (mendL P) ∧ Below wr.heap.size wr w') := Lib.hid <| (refMend_big Ao P p co hml (by omega) wr (RC.of_own hown hml)).mono fun e w' ⟨v, he, ho, hb⟩ => by
            obtain ⟨A', c', hv, hc', hr⟩ := ho.form'
            rw [mendL_len, ← hml] at hv hc'
            subst hv
            exact ⟨A', c', he, hc', hr, ho, hb⟩
          have HS1 : Hid (∀ W, Below wr.heap.size wr W → Calls Try.prog 17 #[.slice Ao p co, .int .i64 m] W fun e w' => ∃ A' c', e = .returned (.slice A' (splitL m P).length c') ∧ RR w' A' (splitL m P) ∧ Below W.heap.size W w') := Lib.hid fun W hW => (split_any Ao P p co m hml (by omega) (by omega) (by omega) W ((RC.of_own hown hml).past hW)).mono fun e w' ⟨v, he, ho, hb⟩ => by
            obtain ⟨A', c', hv, _⟩ := ho.form
            subst hv
            exact ⟨A', c', he, ho.read.2, hb⟩
          have HF1 : Hid (∀ W A' c', RR W A' (splitL m P) → Calls Try.prog 15 #[.slice A' (splitL m P).length c'] W fun e w' => ∃ A2 c2, e = .returned (.slice A2 (usedL (mendL P)) c2) ∧ RC w' w'.heap.size A2 ((mendL P).take (usedL (mendL P))) ∧ Below W.heap.size W w') := Lib.hid fun W A' c' hR => by
            have h := flow_any A' (splitL m P) _ c' rfl (by omega) (fun i hi => by rw [r1 i hi]; omega) (by show (flat (lay m false [] (mendL (unpad P)))).length ≤ 100000; simp at hfl; omega) W hR
            rw [hfs] at h
            refine h.mono fun e w' ⟨v, he, ho, hb⟩ => ?_
            obtain ⟨A2, c2, hv, _, hr⟩ := ho.form'
            have e2 : ((mendL P).take (usedL (mendL P))).length = usedL (mendL P) := by rw [List.length_take, Nat.min_eq_left (used_le _)]
            rw [e2] at hv
            subst hv
            exact ⟨A2, c2, he, hr, hb⟩
          have HU : Hid (∀ W A' c', RC W W.heap.size A' (mendL P) → Calls Try.prog 29 #[.slice A' p c'] W fun e w' => e = .returned (.int .i64 (usedL (mendL P))) ∧ Below W.heap.size W w') := Lib.hid fun W A' c' h => refUsed_any A' (mendL P) p c' (by rw [mendL_len]; exact hml) (by omega) W h
          have HCU : Hid (∀ W A' c', OC wr.heap.size W (.slice A' p c') (mendL P) → RC W W.heap.size A' ((mendL P).take (usedL (mendL P)))) := Lib.hid fun W A' c' h => by
            obtain ⟨A2, c2, hv, _, hr⟩ := (h.cut _ (used_le _)).form'
            injection hv with e1 _ _
            rw [e1]
            exact hr
          have HSM : Hid (∀ W A1 A2 c1 c2, RC W W.heap.size A1 ((mendL P).take (usedL (mendL P))) → RC W W.heap.size A2 ((mendL P).take (usedL (mendL P))) → Calls Try.prog 14 #[.slice A1 (usedL (mendL P)) c1, .slice A2 (usedL (mendL P)) c2] W fun e w' => e = .returned (.bool true) ∧ Below W.heap.size W w') := Lib.hid fun W A1 A2 c1 c2 h1 h2 => by
            have e2 : usedL (mendL P) = ((mendL P).take (usedL (mendL P))).length := by rw [List.length_take, Nat.min_eq_left (used_le _)]
            have h3 := same7C_any A1 A2 ((mendL P).take (usedL (mendL P))) ((mendL P).take (usedL (mendL P))) _ _ c1 c2 e2 e2 (by omega) W h1 h2
            rwa [sameC_self] at h3
          have HBw := HB
          clear hml hown HO hfs r1 r2 hfl hnp
          generalize (mendL P).take (usedL (mendL P)) = T at *
          generalize usedL (mendL P) = u at *
          generalize (splitL m P).length = ln at *
          go_wp2_with (first
            | (go_at_call 28; (with_reducible refine (HM.out).mono ?_); rintro e w1 ⟨A7, c7, rfl, hc7, hr, ho, hb⟩; have HB1 := Lib.hid hb; have HR1 := Lib.hid hr; have HO1 := Lib.hid ho; have huc : u ≤ c7 := Nat.le_trans hul hc7; clear hb ho hr)
            | (go_at_call 17; (with_reducible refine (HS1.out _ HB1.out).mono ?_); rintro e w3 ⟨A3, c3, rfl, hr, hb⟩; have HR3 := Lib.hid hr; have HB3 := Lib.hid (bel0 HB1.out hb); have HR13 := Lib.hid (HR1.out.past hb); have HO13 := Lib.hid (HO1.out.past hb); clear hb hr)
            | (go_at_call 15; (with_reducible refine (HF1.out _ _ _ HR3.out).mono ?_); rintro e w5 ⟨A5, c5, rfl, hr, hb⟩; have HR5 := Lib.hid hr; have HB5 := Lib.hid (bel0 HB3.out hb); have HR15 := Lib.hid (HR13.out.past hb); have HO15 := Lib.hid (HO13.out.past hb); clear hb hr)
            | (go_at_call 29; (with_reducible refine (HU.out _ _ _ HR15.out).mono ?_); rintro e w6 ⟨rfl, hb⟩; have HB6 := Lib.hid (bel0 HB5.out hb); have HR56 := Lib.hid (HR5.out.past hb); have HR76 := Lib.hid (HCU.out _ _ _ (HO15.out.past hb)); clear hb)
            | (go_at_call 14; (with_reducible refine (HSM.out _ _ _ _ _ HR56.out HR76.out).mono ?_); rintro e w8 ⟨rfl, hb⟩; have HB8 := Lib.hid (bel0 HBw.out (bel0 HB6.out hb)); clear hb))
          go_ret
          exact ⟨rfl, HB8.out⟩
    · have hF := fun W => Lib.hid (fits_any z W)
      rw [decide_eq_false hz] at hF
      clear h hn hz
      go_enter Try.func7, Try.ntmps7
      go_wp2_with (first
        | (go_at_call 11; (with_reducible refine ((HA _).out).mono ?_); rintro e w2 ⟨rfl, hb⟩; have HB2 := Lib.hid hb; clear hb)
        | (go_at_call 18; (with_reducible refine ((hF _).out).mono ?_); rintro e w4 ⟨rfl, rfl⟩))
      go_ret
      exact ⟨rfl, HB2.out⟩
end Go.Proofs.Ytfjgfmeanehpmaa
