/- The law HuntReplaces. -/
import Derived.Test.YtjifekdjkjnefaaP4
import Derived.Deep.RegionHeld3
namespace Go.Proofs.Ytjifekdjkjnefaa
open Go.RowKit

theorem add_is (X Y Z : List UInt8) (hz : X ++ Y = Z) (hb : X.length + Y.length ≤ 9000000000) : ∀ W : World, (Op.stringOp .add (bsB X) (bsB Y)).run Try.prog W = .ok (.string (bsB Z)) W := fun W => by rw [run_string_add_sum W _ _ (by rw [bsB_size, bsB_size]; omega), bsB_app, hz]
theorem say_le (Ws : List (List UInt8)) (h : ∀ j, j < Ws.length → (nAt Ws j).length ≤ 100) (i : Nat) : (sayL Ws i).length ≤ 1000 := by
  unfold sayL
  split
  · rename_i hi
    have := h i hi
    omega
  · simp
set_option maxRecDepth 100000 in
set_option maxHeartbeats 8000000 in
theorem huntReplaces_law (T : List UInt8) (Ns Ws : List (List UInt8)) (n c nw cw : Nat) (A AW : Option Addr) (hn : n = Ns.length) (hn63 : n ≤ 9223372036854775807) (hnw : nw = Ws.length) (hw63 : nw ≤ 9223372036854775807) (w : World) (hR : RT w w.heap.size A Ns) (hRW : RT w w.heap.size AW Ws) :
    Calls Try.prog 7 #[.string (bsB T), .slice A n c, .slice AW nw cw] w fun e w' => e = .returned (.bool true) ∧ Below w.heap.size w w' := by
  have HAW := Lib.hid awakeH_any
  have hba : Below w.heap.size w (w.alloc (.cells #[.slice AW nw cw] 22)) := belA (Below.refl _ _) _
  have HBA := Lib.hid hba
  have hk0 : (w.alloc (.cells #[.slice AW nw cw] 22)).cell? ⟨w.heap.size, 0, none⟩ = some (.slice AW nw cw) := cell_of_row _ _ 0 _ _ _ (heap_alloc_new _ _)
  have HK0 := Lib.hid hk0
  have HG := Lib.hid (great_any T Ns n c A hn hn63 _ ((hR.below hba).more hba.size))
  unfold GreatPost at HG
  have HSZA : Hid (w.heap.size < (w.alloc (.cells #[.slice AW nw cw] 22)).heap.size) := Lib.hid (by simp)
  have HR := Lib.hid (hR.below hba)
  have HRW := Lib.hid (hRW.below hba)
  have HN := Lib.hid hn
  have HNW := Lib.hid hnw
  clear hn hnw hR hRW hba hk0
  go_enter Try.func7, Try.ntmps7
  go_wp2_with fail
  (with_reducible refine HG.out.mono ?_)
  rintro e wq ⟨r, hr, rfl, rfl⟩
  clear HG
  generalize (w.alloc (.cells #[.slice AW nw cw] 22)) = wa at *
  cases r with
  | true =>
    clear hr
    go_wp2_with (go_at_call 10; (with_reducible refine (HAW.out _).mono ?_); rintro e w8 ⟨rfl, hb8⟩; have HB8 := Lib.hid (bel0 HBA.out hb8); clear hb8)
    go_ret
    exact ⟨rfl, HB8.out⟩
  | false =>
    have HSM := Lib.hid (hr rfl)
    have hk0 := HK0.out
    clear hr
    by_cases hw : nw ≤ 30
    · have hwi : decide ((30 : Int) < nw) = false := decide_eq_false (by omega)
      have hwn : decide (30 < nw) = false := decide_eq_false (by omega)
      go_wp2_with (go_at_call 10; (with_reducible refine (HAW.out _).mono ?_); rintro e w2 ⟨rfl, hb2⟩; have HB2 := Lib.hid (bel0 HBA.out hb2); have HE2 := Lib.hid hb2; have hk2 := (hb2.cell (p := ⟨w.heap.size, 0, none⟩) HSZA.out).trans hk0; clear hb2)
      have HR2 := Lib.hid ((HR.out.below (HE2.out.mono (Nat.le_of_lt HSZA.out))))
      have HRW2 := Lib.hid ((HRW.out.below (HE2.out.mono (Nat.le_of_lt HSZA.out))))
      have HS2 : Hid (w.heap.size < w2.heap.size) := Lib.hid (Nat.lt_of_lt_of_le HSZA.out HE2.out.size)
      go_loopw [7] (fun v wr => ∃ k : Nat, v = .int .i64 k ∧ k ≤ nw ∧ Hid (∀ j, j < k → (nAt Ws j).length ≤ 100) ∧ w2 = wr) (fun v _ => nw - (intOf v).toNat)
      case atStart => exact ⟨0, rfl, Nat.zero_le _, Lib.hid (fun j hj => by omega), rfl⟩
      case round =>
        obtain ⟨k, rfl, hk, HL, rfl⟩ := hrel
        by_cases hlt : k < nw
        · have hki : (k : Int) < nw := by omega
          obtain ⟨b, off, rfl, hbl, hc⟩ := HRW2.out (fun e => by have := HNW.out; rw [e] at this; simp at this; omega)
          have hck := hc k (HNW.out ▸ hlt)
          have hsz := bsB_size (nAt Ws k)
          have hbl2 : b < w2.heap.size := Nat.lt_trans hbl HS2.out
          clear hc
          by_cases hgt : 100 < (nAt Ws k).length
          · have hgi : (100 : Int) < (nAt Ws k).length := by omega
            generalize bsB (nAt Ws k) = sk at *
            generalize (nAt Ws k).length = lk at *
            go_wp2
            go_ret
            exact ⟨rfl, HB2.out⟩
          · have hgi : ¬ (100 : Int) < (nAt Ws k).length := by omega
            have HL2 : Hid (∀ j, j < k + 1 → (nAt Ws j).length ≤ 100) := Lib.hid fun j hj => by
              rcases (by omega : j < k ∨ j = k) with h | rfl
              · exact HL.out j h
              · omega
            generalize bsB (nAt Ws k) = sk at *
            generalize (nAt Ws k).length = lk at *
            go_wp2
            go_roundw
            case rel => exact ⟨k + 1, by go_num, hlt, HL2, by trivial⟩
            case measure => simp [intOf]; omega
        · obtain rfl : k = nw := by omega
          have hki : ¬ (k : Int) < k := by omega
          have hsm := HSM.out
          have hns : ∀ i, (nAt Ns i).length ≤ 1000000 := nAt_small fun i hi => by have := hsm.2.2 i hi; omega
          have hhl : (hitsL T Ns).length ≤ 1000000 := by have := hU_le T Ns T.length; have := small_hits hsm; unfold hitsL; omega
          have hT : T.length ≤ 1000000 := by have := hsm.1; omega
          have hn2 : n ≤ 1000 := by have := hsm.2.1; have := HN.out; omega
          have hsl := say_le Ws (fun j hj => HL.out j (by have := HNW.out; omega))
          have hin : ∀ W, Below w2.heap.size w2 W → W.cell? ⟨w.heap.size, 0, none⟩ = some (.slice AW k cw) := fun W hW => (hW.cell (p := ⟨w.heap.size, 0, none⟩) HS2.out).trans hk2
          have hsay : ∀ W (i : Nat), Below w2.heap.size w2 W → Calls Try.prog 20 #[.int .i64 (i : Nat), .pointer (some ⟨w.heap.size, 0, none⟩)] W fun e w' => e = .returned (.string (bsB (sayL Ws i))) ∧ ∃ m, w' = W.drewN m := fun W i hW =>
            say_any Ws i w.heap.size k cw AW HNW.out W (hin W hW) ((HRW2.out.below (hW.mono (Nat.le_of_lt HS2.out))).more (Nat.le_trans (Nat.le_of_lt HS2.out) hW.size))
          have HSAY := Lib.hid hsay
          have HRL := Lib.hid (refLongest_any T Ns n c A hT HN.out hn2 hns w2 (HR2.out.more (Nat.le_of_lt HS2.out)))
          have HP1 : Hid (∀ W, Below w2.heap.size w2 W → Calls Try.prog 21 #[.string (bsB T), .func (.func 20) #[] #[.pointer (some ⟨w.heap.size, 0, none⟩)], .slice A n c] W fun e w' => e = .returned (.string (bsB (rpA T Ns (sayL Ws) (lgL Ns (hitsL T Ns))))) ∧ Below w2.heap.size w2 w') := Lib.hid fun W hW =>
            (replace_any T Ns n c A hT HN.out hn2 hns hhl (sayL Ws) hsl _ W ((HR2.out.below (hW.mono (Nat.le_of_lt HS2.out))).more (Nat.le_trans (Nat.le_of_lt HS2.out) hW.size)) (fun W' i _ hb => (insteadSay_any w.heap.size i _ W' (hsay W' i (bel0 hW hb))).mono fun e w' ⟨he, m, hm⟩ => ⟨he, by rw [hm]; exact belN' W' m⟩)).mono fun e w' ⟨he, hb⟩ => ⟨he, bel0 hW hb⟩
          have HP0 : Hid (∀ W, Below w2.heap.size w2 W → Calls Try.prog 21 #[.string (bsB T), .nilFunc, .slice A n c] W fun e w' => e = .returned (.string (bsB (rpA T Ns (fun _ => []) (lgL Ns (hitsL T Ns))))) ∧ Below w2.heap.size w2 w') := Lib.hid fun W hW =>
            (replace_any T Ns n c A hT HN.out hn2 hns hhl (fun _ => []) (fun _ => Nat.zero_le _) _ W ((HR2.out.below (hW.mono (Nat.le_of_lt HS2.out))).more (Nat.le_trans (Nat.le_of_lt HS2.out) hW.size)) (fun W' i _ _ => insteadNil_any i W')).mono fun e w' ⟨he, hb⟩ => ⟨he, bel0 hW hb⟩
          have HCH := Lib.hid (chL_all T Ns)
          have hdl := Nat.le_trans (lgL_le Ns (hitsL T Ns)) hhl
          unfold HitsPost at HRL
          generalize lgL Ns (hitsL T Ns) = D at *
          have HDL := Lib.hid hdl
          have HLN : Hid (∀ F, (∀ i, (F i).length ≤ 1000) → ∀ j, j ≤ D.length → (rpL T Ns F D j).length ≤ 1001000000) := Lib.hid fun F hF j hj => by
            have h1 := rpL_le hF HCH.out j hj
            have h2 := enL_bd HCH.out j hj
            have h3 : j * 1000 ≤ 1000000 * 1000 := Nat.mul_le_mul_right _ (by omega)
            omega
          have HSL := Lib.hid hsl
          clear hsay hin hsl hhl
          go_wp2_with (go_at_call 19; (with_reducible refine (HRL.out).mono ?_); rintro e w3 ⟨A3, c3, rfl, ho3, hb3⟩; have HH3 := Lib.hid (rh_own ho3 rfl); have HE3 := Lib.hid hb3; clear ho3 hb3 HRL)
          obtain ⟨m, hm⟩ : ∃ m, m = D.length := ⟨_, rfl⟩
          rw [← hm]
          have HM := Lib.hid hm
          clear hm
          have HBW := Lib.hid (bel0 HB2.out HE3.out)
          go_loopg [9, 10, 11, 13] m (fun gh s9 s10 s11 s13 wx => ∃ i : Nat, i + gh = m ∧ s13 = .int .i64 i ∧ s11 = .int .i64 (enL Ns D i : Nat) ∧ s9 = .string (bsB (rpL T Ns (sayL Ws) D i)) ∧ s10 = .string (bsB (rpL T Ns (fun _ => []) D i)) ∧ Hid (Below w3.heap.size w3 wx))
          case atStart => exact ⟨0, by omega, rfl, rfl, rfl, rfl, Lib.hid (Below.refl _ _)⟩
          case round =>
            obtain ⟨i, hi, rfl, rfl, rfl, rfl, HB⟩ := hrel
            have HC := Lib.hid (bel0 HE3.out HB.out)
            have hle := enL_bd HCH.out i (by rw [← HM.out]; omega)
            have hsz : (bsB T).size = T.length := bsB_size T
            cases gk with
            | zero =>
              obtain rfl : m = i := by omega
              have hxe : (bsB T).extract (enL Ns D m) T.length = bsB (T.drop (enL Ns D m)) := by rw [bs_extract, List.take_of_length_le (by simp)]
              have hl9 := HLN.out (sayL Ws) HSL.out m (by rw [← HM.out]; exact Nat.le_refl _)
              have hl0 := HLN.out (fun _ => []) (fun _ => Nat.zero_le _) m (by rw [← HM.out]; exact Nat.le_refl _)
              have h9 := add_is (rpL T Ns (sayL Ws) D m) (T.drop (enL Ns D m)) (rpA T Ns (sayL Ws) D) (by unfold rpA; rw [← HM.out]) (by rw [List.length_drop]; omega)
              have h10 := add_is (rpL T Ns (fun _ => []) D m) (T.drop (enL Ns D m)) (rpA T Ns (fun _ => []) D) (by unfold rpA; rw [← HM.out]) (by rw [List.length_drop]; omega)
              clear hl9 hl0
              have hr5 := HC.out
              have hr5d := HC.out.drew
              have hee : ((enL Ns D m : Nat) : Int) ≤ T.length := by omega
              clear HR2 HRW2 HSAY HB HH3
              generalize bsB (rpL T Ns (sayL Ws) D m) = b9 at *
              generalize bsB (rpL T Ns (fun _ => []) D m) = b10 at *
              generalize bsB (rpA T Ns (sayL Ws) D) = o9 at *
              generalize bsB (rpA T Ns (fun _ => []) D) = o10 at *
              generalize bsB (T.drop (enL Ns D m)) = rst at *
              generalize enL Ns D m = en at *
              go_wp2
              go_region_held3 (fun W => Below w2.heap.size w2 W)
                (first | exact hr5d | exact hb6)
                (first
                  | (go_at_call 21; (with_reducible refine (HP1.out _ ?_).mono ?_); (first | assumption); rintro e6 w6 ⟨rfl, hb6⟩)
                  | (go_at_call 21; (with_reducible refine (HP0.out _ ?_).mono ?_); (first | assumption); rintro e6 w6 ⟨rfl, hb6⟩))
              go_wp2
              go_ret
              exact ⟨rfl, HB2.out.trans (Below.mono hb6 (by have := HS2.out; omega))⟩
            | succ gh =>
              have hlt : i < m := by omega
              have hii : (i : Int) < m := by omega
              have hmm : m ≤ 1000000 := by rw [HM.out]; exact HDL.out
              obtain ⟨h1, h2, h3⟩ := HCH.out.hd i (HM.out ▸ hlt)
              have HHr := HH3.out.past HB.out
              obtain ⟨g, off, rfl, hgl, hgc⟩ := HHr (fun e => by have := HM.out; rw [e] at this; simp at this; omega)
              obtain ⟨c0, c1⟩ := hgc i (HM.out ▸ hlt)
              have HEI : Hid (enL Ns D (i + 1) = (hAt D i).1 + (nAt Ns (hAt D i).2).length) := Lib.hid rfl
              have HRI : Hid (∀ F, rpL T Ns F D (i + 1) = rpL T Ns F D i ++ (T.take (hAt D i).1).drop (enL Ns D i) ++ F (hAt D i).2) := Lib.hid (fun _ => rfl)
              change wr.cell? _ = some (.int .i64 ((hAt D i).1 : Nat)) at c0
              change wr.cell? _ = some (.int .i64 ((hAt D i).2 : Nat)) at c1
              generalize hx : hAt D i = x at *
              obtain ⟨p, q⟩ := x
              simp only at h1 h2 h3 c0 c1 HEI HRI
              have hqn : q < n := by rw [HN.out]; exact h2
              have hqi : (q : Int) < n := by omega
              have hq0 : (0 : Int) ≤ q := by omega
              have hpT : p ≤ T.length := by have := HEI.out; omega
              have hpi : (p : Int) ≤ T.length := by omega
              have hp0 : (0 : Int) ≤ p := by omega
              have hep : ((enL Ns D i : Nat) : Int) ≤ p := by omega
              obtain ⟨nb, noff, rfl, hnb, hnc⟩ := HR2.out.below (HC.out.mono (Nat.le_of_lt HS2.out)) (fun e => by rw [e] at h2; simp at h2)
              have hncq := hnc q h2
              have hnbr : nb < wr.heap.size := Nat.lt_of_lt_of_le (Nat.lt_trans hnb HS2.out) HC.out.size
              have hlq := bsB_size (nAt Ns q)
              have hlq6 := hns q
              have HSY := Lib.hid (fun t => HSAY.out (wr.drewN t) q (bel0 HC.out (belN' wr t)))
              have hx1 : (bsB T).extract (enL Ns D i) p = bsB ((T.take p).drop (enL Ns D i)) := by rw [bs_extract, List.drop_take]
              have hl9 := HLN.out (sayL Ws) HSL.out i (by rw [← HM.out]; omega)
              have hl0 := HLN.out (fun _ => []) (fun _ => Nat.zero_le _) i (by rw [← HM.out]; omega)
              have hlm : ((T.take p).drop (enL Ns D i)).length ≤ 1000000 := by rw [List.length_drop, List.length_take]; omega
              have h8 := add_is (rpL T Ns (sayL Ws) D i) ((T.take p).drop (enL Ns D i)) _ rfl (by omega)
              have h9 := add_is (rpL T Ns (sayL Ws) D i ++ (T.take p).drop (enL Ns D i)) (sayL Ws q) (rpL T Ns (sayL Ws) D (i + 1)) (by rw [HRI.out]) (by have := HSL.out q; rw [List.length_append]; omega)
              have h10 := add_is (rpL T Ns (fun _ => []) D i) ((T.take p).drop (enL Ns D i)) (rpL T Ns (fun _ => []) D (i + 1)) (by rw [HRI.out, List.append_nil]) (by omega)
              generalize bsB (rpL T Ns (sayL Ws) D i ++ (T.take p).drop (enL Ns D i)) = b8 at *
              clear hl9 hl0 hlm hgc hnc HHr HR2 HRW2 HSAY HP1 HP0 HRI
              generalize bsB (rpL T Ns (sayL Ws) D i) = b9 at *
              generalize bsB (rpL T Ns (fun _ => []) D i) = b10 at *
              generalize bsB ((T.take p).drop (enL Ns D i)) = s1 at *
              generalize bsB (sayL Ws q) = s2 at *
              generalize bsB (nAt Ns q) = nk at *
              go_wp2
              go_quiet ((go_at_call 20; refine Calls.quiet_of (HSY.out _)))
              have hbq1 := belN' wr nq
              have d0 := (hbq1.cell (p := ⟨g, off + i * 2, none⟩) hgl).trans c0
              have d1 := (hbq1.cell (p := ⟨g, off + i * 2 + 1, none⟩) hgl).trans c1
              have dn := (hbq1.cell (p := ⟨nb, noff + q, none⟩) hnbr).trans hncq
              have dg := Nat.lt_of_lt_of_le hgl hbq1.size
              have db := Nat.lt_of_lt_of_le hnbr hbq1.size
              have HB1' := Lib.hid (HB.out.trans (hbq1.mono HB.out.size))
              clear c0 c1 hncq hgl hnbr hbq1 HB
              generalize wr.drewN nq = wt at *
              go_wp2
              go_quiet (fail)
              have hbq2 := belN' wt nq
              go_wp2
              go_roundg gh
              case measure => omega
              case rel => exact ⟨i + 1, by omega, by go_num, by rw [HEI.out]; go_num, rfl, rfl, Lib.hid (HB1'.out.trans (hbq2.mono HB1'.out.size))⟩
    · have hwi : decide ((30 : Int) < nw) = true := decide_eq_true (by omega)
      have hwn : decide (30 < nw) = true := decide_eq_true (by omega)
      go_wp2_with (go_at_call 10; (with_reducible refine (HAW.out _).mono ?_); rintro e w8 ⟨rfl, hb8⟩; have HB8 := Lib.hid (bel0 HBA.out hb8); clear hb8)
      go_ret
      exact ⟨rfl, HB8.out⟩

theorem huntReplaces_str (s : ByteArray) (Ns Ws : List (List UInt8)) (n c nw cw : Nat) (A AW : Option Addr) (hn : n = Ns.length) (hn63 : n ≤ 9223372036854775807) (hnw : nw = Ws.length) (hw63 : nw ≤ 9223372036854775807) (w : World) (hR : RT w w.heap.size A Ns) (hRW : RT w w.heap.size AW Ws) :
    Calls Try.prog 7 #[.string s, .slice A n c, .slice AW nw cw] w fun e w' => e = .returned (.bool true) ∧ Below w.heap.size w w' := by
  rw [bs_of s]
  exact huntReplaces_law _ Ns Ws n c nw cw A AW hn hn63 hnw hw63 w hR hRW

end Go.Proofs.Ytjifekdjkjnefaa
