/- The law HuntNext. -/
import Derived.Test.YtdfhbonfjpnifaaL6
import Derived.Test.YtdfhbonfjpnifaaL4
import Derived.BigQuiet
namespace Go.Proofs.Ytdfhbonfjpnifaa
open Go.RowKit

theorem drop_at {α : Type} (L : List α) (d : α) (i : Nat) (h : i < L.length) : L.drop i = (L[i]?.getD d) :: L.drop (i + 1) := by
  rw [List.getElem?_eq_getElem h]
  exact List.drop_eq_getElem_cons h
set_option maxRecDepth 100000 in
set_option maxHeartbeats 8000000 in
theorem huntNext_law (T : List UInt8) (Ns : List (List UInt8)) (z : Int) (hz0 : 0 ≤ z) (n c : Nat) (A : Option Addr) (hn : n = Ns.length) (hn63 : n ≤ 9223372036854775807) (w : World) (hR : RT w w.heap.size A Ns) : Calls Try.prog 4 #[.string (bsB T), .slice A n c, .int .u8 z] w fun e w' => e = .returned (.bool true) ∧ Below w.heap.size w w' := by
  have HAW := Lib.hid awakeH_any
  have HG := Lib.hid (great_any T Ns n c A hn hn63 w hR)
  unfold GreatPost at HG
  have HNEW : Hid (SmallH T Ns → ∀ W, Below w.heap.size w W → Calls Try.prog 14 #[.string (bsB T), .slice A n c] W fun e w' => e = .returned (.pointer (some ⟨W.heap.size, 0, none⟩)) ∧ HQ W W.heap.size (hitsL T Ns) w') := Lib.hid fun hs W hW => new_any T Ns n c A (by have := hs.1; omega) hn (by have := hs.2.1; omega) (nAt_small fun i hi => by have := hs.2.2 i hi; omega) W (hR.past hW)
  have HB : Hid (SmallH T Ns → ∀ W, Below w.heap.size w W → Calls Try.prog 13 #[.string (bsB T), .slice A n c] W (HitsPost (hitsL T Ns) W)) := Lib.hid fun hs W hW => refAllH_any T Ns n c A (by have := hs.1; omega) hn (by have := hs.2.1; omega) (nAt_small fun i hi => by have := hs.2.2 i hi; omega) (by rw [hn]; have := small_hits hs; omega) W (hR.past hW)
  unfold HitsPost at HB
  have HLM : Hid (SmallH T Ns → (hitsL T Ns).length ≤ 1000000) := Lib.hid fun hs => by have := hU_le T Ns T.length; have := small_hits hs; unfold hitsL; omega
  have hg := guardHit
  have htm : z.tmod 9 = z % 9 := Int.tmod_eq_emod_of_nonneg (by omega)
  obtain ⟨q, hq⟩ : ∃ q : Nat, z % 9 = (q : Int) := Int.eq_ofNat_of_zero_le (by omega)
  have hq9 : q < 9 := by omega
  rw [hq] at htm
  clear hn hn63 hR
  generalize hitsL T Ns = HL at *
  generalize bsB T = sT at *
  generalize SmallH T Ns = SM at *
  go_enter Try.func4, Try.ntmps4
  go_wp2_with fail
  (with_reducible refine HG.out.mono ?_)
  rintro e w1 ⟨r, hr, rfl, rfl⟩
  clear HG
  cases r with
  | true =>
    clear hr
    go_wp2_with (go_at_call 10; (with_reducible refine (HAW.out w).mono ?_); rintro e w8 ⟨rfl, hb8⟩; have HB8 := Lib.hid hb8; clear hb8)
    go_ret
    exact ⟨rfl, HB8.out⟩
  | false =>
    have HSM := Lib.hid (hr rfl)
    clear hr
    have hm6 := HLM.out HSM.out
    have HNW := Lib.hid (fun W => HNEW.out HSM.out W)
    have HAL := Lib.hid (fun W => HB.out HSM.out W)
    clear HNEW HB HLM
    obtain ⟨m, hm⟩ : ∃ m, m = HL.length := ⟨_, rfl⟩
    have HM := Lib.hid hm
    rw [← hm] at HAL hm6
    clear hm
    go_wp2_with (first
      | (go_at_call 10; (with_reducible refine (HAW.out w).mono ?_); rintro e w2 ⟨rfl, hb2⟩; have HB2 := Lib.hid hb2; clear hb2)
      | (go_at_call 14; (with_reducible refine (HNW.out w2 HB2.out).mono ?_); rintro e w3 ⟨rfl, hq3⟩; have HQ3 := Lib.hid hq3; have HB3 := Lib.hid (bel0 HB2.out hq3.choose_spec.1.below); clear hq3)
      | (go_at_call 13; (with_reducible refine (HAL.out w3 HB3.out).mono ?_); rintro e w4 ⟨A4, c4, rfl, ho4, hb4⟩; have HO4 := Lib.hid ho4; have HQ4 := Lib.hid (HQ3.out.past hb4); clear ho4 hb4))
    go_loopw [9] (fun v wr => ∃ i : Nat, v = .int .i64 i ∧ i ≤ m + q ∧ Hid (HQ w2 w2.heap.size (HL.drop i) wr) ∧ Hid (wr.ownsRow w3.heap.size 33 2 (.slice A4 m c4) m (htV HL))) (fun v _ => m + q - (intOf v).toNat)
    case atStart => exact ⟨0, by go_num, Nat.zero_le _, HQ4, HO4⟩
    case round =>
      obtain ⟨i, rfl, hi, HQR, HOR⟩ := hrel
      by_cases hlt : i < m + q
      · have hlti : (i : Int) < m + q := by omega
        by_cases him : i < m
        · have himi : (i : Int) < m := by omega
          have hdr := drop_at HL (0, 0) i (by rw [← HM.out]; exact him)
          have HCL : Hid (∀ (W : World), W.ownsRow w3.heap.size 33 2 (.slice A4 m c4) m (htV HL) → ∃ b off, A4 = some ⟨b, off, none⟩ ∧ b < W.heap.size ∧ W.cell? ⟨b, off + i * 2, none⟩ = some (.int .i64 ((HL[i]?.getD (0, 0)).1 : Nat)) ∧ W.cell? ⟨b, off + i * 2 + 1, none⟩ = some (.int .i64 ((HL[i]?.getD (0, 0)).2 : Nat))) := Lib.hid fun W h => by
            obtain ⟨b, off, e, hl, hc⟩ := rh_own h HM.out (fun e => by have := HM.out; rw [e] at this; simp at this; omega)
            have := hc i (by rw [← HM.out]; exact him)
            exact ⟨b, off, e, hl, this.1, this.2⟩
          have HLF := Lib.hid (left_any w2 w2.heap.size (HL.drop i) (by rw [List.length_drop]; have := HM.out; omega) wr HQR.out)
          have hdl : (HL.drop i).length = m - i := by rw [List.length_drop, ← HM.out]
          rw [hdl] at HLF
          rw [hdr] at HQR
          have hsub : ((m - i : Nat) : Int) = m - i := by omega
          clear hdr hdl
          generalize HL[i]?.getD (0, 0) = x at *
          obtain ⟨a, x2⟩ := x
          have HNS := Lib.hid (fun W (h : HQ w2 w2.heap.size ((a, x2) :: HL.drop (i + 1)) W) => next_some w2 w2.heap.size a x2 (HL.drop (i + 1)) W h)
          have E := fun W => eqHit_self W a x2
          go_wp2_with (first
            | (go_at_call 15; (with_reducible refine (HLF.out).mono ?_); rintro e w5 ⟨rfl, hb5⟩; have HQ5 := Lib.hid (HQR.out.past hb5); have HO5 := Lib.hid (own_past HOR.out hb5); clear hb5 HLF)
            | (go_at_call 16; (with_reducible refine (HNS.out w5 HQ5.out).mono ?_); rintro e w6 ⟨rfl, hp6⟩; have HQ6 := Lib.hid (hp6.1.past (belA (Below.refl _ _) (.cells #[.int .i64 (a : Nat), .int .i64 (x2 : Nat)] 33))); have HO6 := Lib.hid (own_past (own_hf HO5.out hp6.2) (belA (Below.refl _ _) (.cells #[.int .i64 (a : Nat), .int .i64 (x2 : Nat)] 33))); obtain ⟨b8, o8, rfl, hbl8, d0, d1⟩ := HCL.out _ HO6.out; obtain ⟨q0, q1⟩ := cell2_new w6 _ (a : Nat) (x2 : Nat) 33 (Below.refl _ _); clear hp6 HNS HCL))
          go_quiet (fail)
          have HQ8 := Lib.hid (HQ6.out.past (belN' _ nq))
          have HO8 := Lib.hid (own_past HO6.out (belN' _ nq))
          clear d0 d1 q0 q1 hbl8
          go_wp2
          go_roundw
          case rel => exact ⟨i + 1, by go_num, hlt, HQ8, HO8⟩
          case measure => simp [intOf]; omega
        · have himi : ¬ (i : Int) < m := by omega
          have hdr : HL.drop i = [] := List.drop_eq_nil_of_le (by rw [← HM.out]; omega)
          rw [hdr] at HQR
          have HLF := Lib.hid (left_any w2 w2.heap.size [] (by simp) wr HQR.out)
          have HNN := Lib.hid (fun W (h : HQ w2 w2.heap.size [] W) => next_none w2 w2.heap.size W h)
          have hdr2 : HL.drop (i + 1) = [] := List.drop_eq_nil_of_le (by rw [← HM.out]; omega)
          have E := fun W => eqHit_self W 0 0
          rw [List.length_nil] at HLF
          go_wp2_with (first
            | (go_at_call 15; (with_reducible refine (HLF.out).mono ?_); rintro e w5 ⟨rfl, hb5⟩; have HQ5 := Lib.hid (HQR.out.past hb5); have HO5 := Lib.hid (own_past HOR.out hb5); clear hb5 HLF)
            | (go_at_call 16; (with_reducible refine (HNN.out w5 HQ5.out).mono ?_); rintro e w6 ⟨rfl, hp6⟩; have HQ6 := Lib.hid (hp6.1.past (belA (Below.refl _ _) (.cells #[.int .i64 0, .int .i64 0] 33))); have HO6 := Lib.hid (own_past (own_hf HO5.out hp6.2) (belA (Below.refl _ _) (.cells #[.int .i64 0, .int .i64 0] 33))); obtain ⟨q0, q1⟩ := cell2_new w6 _ 0 0 33 (Below.refl _ _); clear hp6 HNN))
          go_quiet (fail)
          have HQ8 := Lib.hid (HQ6.out.past (belN' _ nq))
          have HO8 := Lib.hid (own_past HO6.out (belN' _ nq))
          clear q0 q1
          go_wp2
          go_roundw
          case rel => exact ⟨i + 1, by go_num, hlt, by rw [hdr2]; exact HQ8, HO8⟩
          case measure => simp [intOf]; omega
      · obtain rfl : i = m + q := by omega
        have HBF := Lib.hid (bel0 HB2.out HQR.out.choose_spec.1.below)
        go_wp2
        go_ret
        exact ⟨rfl, HBF.out⟩

end Go.Proofs.Ytdfhbonfjpnifaa
