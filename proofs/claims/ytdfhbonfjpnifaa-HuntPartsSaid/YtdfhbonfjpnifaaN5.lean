/- The law HuntParts. -/
import Derived.Test.YtdfhbonfjpnifaaN4
namespace Go.Proofs.Ytdfhbonfjpnifaa
open Go.RowKit

set_option maxRecDepth 100000 in
set_option maxHeartbeats 8000000 in
theorem huntParts_law (T : List UInt8) (Ns : List (List UInt8)) (n c : Nat) (A : Option Addr) (hn : n = Ns.length) (hn63 : n ≤ 9223372036854775807) (w : World) (hR : RT w w.heap.size A Ns) : Calls Try.prog 8 #[.string (bsB T), .slice A n c] w fun e w' => e = .returned (.bool true) ∧ Below w.heap.size w w' := by
  obtain ⟨i0, hi0, hz0, hz1, hz2⟩ := info_parts Try.infoInt
  have HAW := Lib.hid awakeH_any
  have HG := Lib.hid (great_any T Ns n c A hn hn63 w hR)
  unfold GreatPost at HG
  have HA : Hid (SmallH T Ns → ∀ W, Below w.heap.size w W → Calls Try.prog 12 #[.string (bsB T), .slice A n c] W fun e w' => ∃ A1 c1, e = .returned (.slice A1 (hitsL T Ns).length c1) ∧ RH w' w'.heap.size A1 (hitsL T Ns) ∧ Below W.heap.size W w') := Lib.hid fun hs W hW => (allH_any T Ns n c A (by have := hs.1; omega) hn (by have := hs.2.1; omega) (nAt_small fun i hi => by have := hs.2.2 i hi; omega) (by have := hU_le T Ns T.length; have := small_hits hs; unfold hitsL; omega) W (hR.past hW)).mono fun e w' ⟨A1, c1, he, ho, hb⟩ => ⟨A1, c1, he, rh_own ho rfl, hb⟩
  have HFA : Hid (SmallH T Ns → ∀ i, i < n → ∀ W, Calls Try.prog 23 #[.string (bsB T), .string (bsB (nAt Ns i))] W (IntsPost (ownH (hitsL T Ns) i) W)) := Lib.hid fun hs i hi W => by
    rw [ownH_pls T Ns (by have := hs.2.1; omega) i (by rw [← hn]; exact hi)]
    exact all_any T (nAt Ns i) (by have := hs.1; omega) (by have := nAt_small (fun i hi => by have := hs.2.2 i hi; omega) i; omega) W
  unfold IntsPost at HFA
  have HI : Hid (∀ (L : List Nat) (n n' : Nat) (W : World) A1 c1 A2 c2, n = L.length → n' = L.length → n ≤ 1000000000 → RI W W.heap.size A1 (zsN L) → RI W W.heap.size A2 (zsN L) → Calls Try.prog 22 #[.slice A1 n c1, .slice A2 n' c2] W fun e w' => e = .returned (.bool true) ∧ Below W.heap.size W w') := Lib.hid fun L n n' W A1 c1 A2 c2 h1 h2 h3 h4 h5 => ints_as L L true (by simp) n n' h1 h2 h3 A1 A2 c1 c2 W h4 h5
  have HLM : Hid (SmallH T Ns → (hitsL T Ns).length ≤ 1000000) := Lib.hid fun hs => by have := hU_le T Ns T.length; have := small_hits hs; unfold hitsL; omega
  have HN30 : Hid (SmallH T Ns → n ≤ 30) := Lib.hid fun hs => by rw [hn]; exact hs.2.1
  have HALL : Hid (smH (hitsL T Ns) n = (hitsL T Ns).length) := Lib.hid (by rw [hn]; exact smH_all T Ns)
  have HRT := Lib.hid hR
  have HN := Lib.hid hn
  clear hn hn63 hR
  generalize hitsL T Ns = HL at *
  generalize bsB T = sT at *
  generalize SmallH T Ns = SM at *
  have HTK := Lib.hid (fun i k h => ownH_take HL k i h)
  have HTM : Hid (∀ i, ownH (HL.take HL.length) i = ownH HL i) := Lib.hid fun i => by rw [List.take_length]
  have HOL := Lib.hid (fun i => ownH_le HL i)
  have HSL := Lib.hid (fun i => smH_le HL i)
  have HSS : Hid (∀ i, smH HL (i + 1) = smH HL i + (ownH HL i).length) := Lib.hid fun i => rfl
  obtain ⟨m, hm⟩ : ∃ m, m = HL.length := ⟨_, rfl⟩
  rw [← hm] at HA HLM HALL HTK HTM HOL HSL
  have HM := Lib.hid hm
  clear hm
  go_enter Try.func8, Try.ntmps8
  go_wp2_with fail
  (with_reducible refine HG.out.mono ?_)
  rintro e w1 ⟨r, hr, rfl, rfl⟩
  clear HG
  cases r with
  | true =>
    clear hr
    go_wp2_with (go_at_call 10; (with_reducible refine (HAW.out w).mono ?_); rintro e w8 ⟨rfl, hb8⟩; have HB8 := Lib.hid hb8; clear hb8)
    go_ret
    exact ⟨rfl, HB8.out⟩
  | false =>
    have HSM := Lib.hid (hr rfl)
    clear hr
    have hm6 := HLM.out HSM.out
    have hn30 := HN30.out HSM.out
    have HF1 := Lib.hid (fun i hi W => HFA.out HSM.out i hi W)
    clear HFA HLM HN30
    go_wp2_with (first
      | (go_at_call 10; (with_reducible refine (HAW.out w).mono ?_); rintro e w2 ⟨rfl, hb2⟩; have HB2 := Lib.hid hb2; clear hb2)
      | (go_at_call 12; (with_reducible refine (HA.out HSM.out w2 HB2.out).mono ?_); rintro e w3 ⟨A3, c3, rfl, hr3, hb3⟩; have HR3 := Lib.hid hr3; have HB3 := Lib.hid (bel0 HB2.out hb3); clear hr3 hb3))
    go_loopw [6, 7] (fun v q wr => ∃ i : Nat, v = .int .i64 (smH HL i : Nat) ∧ q = .int .i64 i ∧ i ≤ n ∧ Hid (Below w3.heap.size w3 wr)) (fun _ q _ => n - (intOf q).toNat)
    case atStart => exact ⟨0, by go_num, by go_num, Nat.zero_le _, Lib.hid (Below.refl _ _)⟩
    case round =>
      obtain ⟨i, rfl, rfl, hi, HB⟩ := hrel
      by_cases hlt : i < n
      · have hlti : (i : Int) < n := by omega
        have HOT := Lib.hid (fun k h => HTK.out i k h)
        have hsl := HSL.out (i + 1)
        rw [HSS.out i] at hsl
        have HSI := Lib.hid (HSS.out i)
        have HOM := Lib.hid (HTM.out i)
        have hol := HOL.out i
        have HF2 := Lib.hid (fun W => HF1.out i hlt W)
        have HO0 : Hid (ownH (HL.take 0) i = []) := Lib.hid rfl
        obtain ⟨OT, hOT⟩ : ∃ OT : Nat → List Nat, OT = fun k => ownH (HL.take k) i := ⟨_, rfl⟩
        have HOT2 : Hid (∀ k, k < m → OT (k + 1) = OT k ++ if (HL[k]?.getD (0, 0)).2 = i then [(HL[k]?.getD (0, 0)).1] else []) := Lib.hid fun k h => by rw [hOT]; exact HOT.out k h
        have HOM2 : Hid (OT m = ownH HL i) := Lib.hid (by rw [hOT]; exact HOM.out)
        have HO02 : Hid (OT 0 = []) := Lib.hid (by rw [hOT]; exact HO0.out)
        clear hOT HOT HOM HO0
        generalize ownH HL i = OW at *
        go_wp2
        go_loopw [8, 9] (fun v q wr2 => ∃ (k m5 : Nat) (A5 : Option Addr) (c5 : Nat), v = .slice A5 m5 c5 ∧ q = .int .i64 k ∧ k ≤ m ∧ m5 ≤ k ∧ Hid (m5 = (OT k).length) ∧ Hid (wr2.ownsRow w3.heap.size 3 1 (.slice A5 m5 c5) m5 (intV (OT k))) ∧ Hid (Below w3.heap.size w3 wr2)) (fun _ q _ => m - (intOf q).toNat)
        case atStart => exact ⟨0, 0, none, 0, rfl, by go_num, Nat.zero_le _, Nat.le_refl _, Lib.hid (by rw [HO02.out]; rfl), Lib.hid (by rw [HO02.out]; exact World.ownsRow_nil _ _ _ _), HB⟩
        case round =>
          obtain ⟨k, m5, A5, c5, rfl, rfl, hk, hm5, HM5, HO, HB5⟩ := hrel
          by_cases hkm : k < m
          · have hkmi : (k : Int) < m := by omega
            obtain ⟨b, off, rfl, hbl, hc⟩ := (HR3.out.below HB5.out) (fun e => by have := HM.out; rw [e] at this; simp at this; omega)
            have hcc := hc k (by rw [← HM.out]; exact hkm)
            have d0 := hcc.1
            have d1 := hcc.2
            have HO1 := Lib.hid (HOT2.out k hkm)
            clear hc hcc
            generalize HL[k]?.getD (0, 0) = x at *
            obtain ⟨a, x2⟩ := x
            have hsz := HB5.out.size
            by_cases hxi : x2 = i
            · subst hxi
              have HO2 : Hid (OT (k + 1) = OT k ++ [a]) := Lib.hid (by rw [HO1.out]; exact congrArg _ (if_pos rfl))
              clear HO1
              have hsz2 : w3.heap.size ≤ (wr.alloc (.cells #[.int .i64 (a : Nat)] 3)).heap.size := (belA HB5.out _).size
              go_wp2_with (at_builtin; go_must (refine wpList_append_own _ rfl _ _ 42 rfl w3.heap.size 3 i0 (.int .i64 0) 1 8 Try.underlying42 hi0 hz0 hz1 hz2 rfl (by decide) (.slice A5 m5 c5) m5 (intV (OT k)) rfl (HO.out.alloc _) ⟨wr.heap.size, 0, none⟩ 1 1 [.int .i64 a] rfl rfl (news1 wr _ _) (by simp [Value.oneCell']) (by unfold maxLen; omega) (by omega) hsz2 ?_; intro v5 w5 hown5 hgrow5 _; obtain ⟨A6, c6, rfl, _⟩ := own_formC hown5; have HO5 := Lib.hid hown5; have HB6 := Lib.hid ((belA HB5.out _).grown hgrow5 hsz2 (fun j e => ((HO.out.alloc (.cells #[.int .i64 a] 3)).lt _ e).1)); clear hown5 hgrow5))
              go_roundw
              case rel => exact ⟨k + 1, m5 + 1, A6, c6, rfl, by go_num, hkm, by omega, Lib.hid (by rw [HO2.out, List.length_append, ← HM5.out]; rfl), Lib.hid (by rw [HO2.out, intV_snoc]; exact HO5.out), HB6⟩
              case measure => simp [intOf]; omega
            · have hxii : ¬ (x2 : Int) = i := by omega
              have HO2 : Hid (OT (k + 1) = OT k) := Lib.hid (by rw [HO1.out, if_neg hxi, List.append_nil])
              clear HO1
              go_wp2
              go_roundw
              case rel => exact ⟨k + 1, m5, A5, c5, rfl, by go_num, hkm, by omega, Lib.hid (by rw [HO2.out]; exact HM5.out), Lib.hid (by rw [HO2.out]; exact HO.out), HB5⟩
              case measure => simp [intOf]; omega
          · obtain rfl : k = m := by omega
            have hmo : m5 = OW.length := by rw [HM5.out, HOM2.out]
            have HOW : Hid (wr.ownsRow w3.heap.size 3 1 (.slice A5 m5 c5) m5 (intV OW)) := Lib.hid (by rw [← HOM2.out]; exact HO.out)
            have HBW := Lib.hid (bel0 HB3.out (HB5.out))
            obtain ⟨b, off, rfl, hbl, hc⟩ := HRT.out (fun e => by have := HN.out; rw [e] at this; simp at this; omega)
            have hck : wr.cell? ⟨b, off + i, none⟩ = some (.string (bsB (nAt Ns i))) := (HBW.out.cell (p := ⟨b, off + i, none⟩) hbl).trans (hc i (by rw [← HN.out]; exact hlt))
            have HF3 := Lib.hid (HF2.out wr)
            have HII := Lib.hid (fun W A1 c1 A2 c2 => HI.out OW m5 OW.length W A1 c1 A2 c2 hmo rfl (by omega))
            clear hc HM5 HO HO02 HOT2 HOM2 HF2 HF1 HI
            rw [← hmo] at hsl hol HSI HF3 HII
            have HMO := Lib.hid hmo
            clear hmo
            generalize bsB (nAt Ns i) = sN at *
            go_wp2_with (first
              | (go_at_call 23; (with_reducible refine (HF3.out).mono ?_); rintro e w4 ⟨A4, c4, rfl, ho4, hb4⟩; have HO4 := Lib.hid (ri_base HMO.out ho4); have HO6 := Lib.hid (ri_base HMO.out (own_past HOW.out hb4)); have HB6 := Lib.hid (bel0 HB5.out hb4); clear ho4 hb4)
              | (go_at_call 22; (with_reducible refine (HII.out w4 A5 c5 A4 c4 HO6.out HO4.out).mono ?_); rintro e w5 ⟨rfl, hb5⟩; have HB7 := Lib.hid (bel0 HB6.out hb5); clear hb5))
            go_roundw
            case rel => exact ⟨i + 1, by rw [HSI.out]; go_num, by go_num, hlt, HB7⟩
            case measure => simp [intOf]; omega
      · obtain rfl : i = n := by omega
        rw [HALL.out]
        have HBF := Lib.hid (bel0 HB3.out HB.out)
        go_wp2
        go_ret
        exact ⟨rfl, HBF.out⟩
theorem huntParts_str (s : ByteArray) (xs : List (List UInt8)) (n c : Nat) (A : Option Addr) (hn : n = xs.length) (h63 : n ≤ 9223372036854775807) (w : World) (hR : RT w w.heap.size A xs) : Calls Try.prog 8 #[.string s, .slice A n c] w fun e w' => e = .returned (.bool true) ∧ Below w.heap.size w w' := by
  rw [bs_of s]
  exact huntParts_law _ xs n c A hn h63 w hR

end Go.Proofs.Ytdfhbonfjpnifaa
