/- The walk of eachEnd: each byte with which some of the needle's first bytes end. -/
import Derived.Test.YtjifekdjkjnefaaF2
import Derived.Deep.LoopGhost
import Derived.WalkMore
namespace Go.Proofs.Ytjifekdjkjnefaa
open Go.RowKit

theorem idx_as (l : List UInt8) (k x : Nat) (h : k < l.length) (hx : x = (l[k]?.getD 0).toNat) (W : World) : (Instr.index 9 (.string (bsB l)) (.int .i64 k)).run Try.prog W = .ok (.int .u8 x) W := by
  rw [hx]
  exact idx_bs l k h W
set_option maxRecDepth 100000 in
set_option maxHeartbeats 4000000 in
theorem eachEnd_any (m : UInt8 → UInt8) (fM fK : Nat) (kc : Array Value) (hcM : ∀ a W, (callFunc fM #[a]).run Try.prog W = .ok (.enter fM #[a]) W) (hcK : ∀ a b W, (callFunc fK (#[a, b] ++ kc)).run Try.prog W = .ok (.enter fK (#[a, b] ++ kc)) W) (hM : ∀ (c : UInt8) W, Calls Try.prog fM #[.int .u8 c.toNat] W fun e w' => e = .returned (.int .u8 (m c).toNat) ∧ W = w')
    (T N : List UInt8) (hT : T.length ≤ 1000000000) (hN : N.length ≤ 1000000000) (hN0 : N ≠ []) (fr : Nat) (hfr : fr ≤ T.length) (g cp : Nat) (w : World)
    (J : Nat → World → Prop) (S : World → Prop) (hJ0 : J fr w)
    (hS : ∀ p W, fr ≤ p → p < T.length → J p W → ∀ i, i < N.length → i < p - fr → W.cell? ⟨g, i, none⟩ = some (.int .i64 (bd m N i)))
    (hskip : ∀ p W, fr ≤ p → p < T.length → mx m T N fr (p + 1) = 0 → J p W → J (p + 1) W)
    (hmore : ∀ p n W, fr ≤ p → p < T.length → mx m T N fr (p + 1) = n → 0 < n → J p W → Calls Try.prog fK (#[.int .i64 p, .int .i64 n] ++ kc) W fun e w' => ∃ b, e = .returned (.bool b) ∧ (b = true → J (p + 1) w') ∧ (b = false → S w')) :
    Calls Try.prog 43 #[.string (bsB T), .int .i64 fr, .string (bsB N), .slice (some ⟨g, 0, none⟩) N.length cp, .func (.func fM) #[] #[], .func (.func fK) #[] kc] w fun e w' => e = .returned (.tuple #[]) ∧ (J T.length w' ∨ S w') := by
  have HM := Lib.hid hM
  have HS := Lib.hid hS
  have HK := Lib.hid hskip
  have HD := Lib.hid hmore
  have HJ := Lib.hid hJ0
  have HFR := Lib.hid hfr
  have HZ : Hid (0 < N.length) := Lib.hid (List.length_pos_iff.2 hN0)
  have hsT : (bsB T).size = T.length := bsB_size T
  have hsN : (bsB N).size = N.length := bsB_size N
  have HIT : Hid (∀ k x, k < T.length → x = (T[k]?.getD 0).toNat → ∀ W, (Instr.index 9 (.string (bsB T)) (.int .i64 k)).run Try.prog W = .ok (.int .u8 x) W) := Lib.hid (idx_as T)
  have HIN : Hid (∀ k x, k < N.length → x = (N[k]?.getD 0).toNat → ∀ W, (Instr.index 9 (.string (bsB N)) (.int .i64 k)).run Try.prog W = .ok (.int .u8 x) W) := Lib.hid (idx_as N)
  have HMX : Hid (mx m T N fr fr = 0) := Lib.hid (mx_fr m T N fr)
  clear hM hS hskip hmore hJ0 hN0 hfr
  generalize hbT : bsB T = sT at *
  generalize hbN : bsB N = sN at *
  generalize hlT : T.length = tl at *
  generalize hlN : N.length = nl at *
  have HLT := Lib.hid hlT
  have HLN := Lib.hid hlN
  clear hlT hlN hbT hbN
  have hsTi : (sT.size : Int) = tl := by rw [hsT]
  have hsNi : (sN.size : Int) = nl := by rw [hsN]
  clear hsT hsN
  go_enter Try.func43, Try.ntmps43
  go_wp2
  go_step3
  go_wp2
  go_step3
  go_wp2
  go_loopg [12, 13] (tl - fr) (fun gh s12 s13 wx => ∃ p : Nat, p + gh = tl ∧ fr ≤ p ∧ s13 = .int .i64 p ∧ s12 = .int .i64 (mx m T N fr p) ∧ Hid (J p wx))
  case atStart => exact ⟨fr, by have := HFR.out; omega, Nat.le_refl _, rfl, by rw [HMX.out]; rfl, HJ⟩
  case round =>
    obtain ⟨p, hp, hfp, rfl, rfl, HI⟩ := hrel
    cases gk with
    | zero =>
      have hpi : ¬ ((p : Int) < tl) := by omega
      obtain rfl : p = tl := by omega
      go_wp2
      (try rw [Exit.noGoto_ret])
      go_end0
      exact ⟨rfl, .inl HI.out⟩
    | succ gh =>
      have hpi : (p : Int) < tl := by omega
      obtain ⟨xn, hx⟩ : ∃ x, x = (T[p]?.getD 0).toNat := ⟨_, rfl⟩
      have i0 := HIT.out p xn (by omega) hx
      obtain ⟨cx, hcx⟩ : ∃ c, c = (mt m T p).toNat := ⟨_, rfl⟩
      have HM1 : Hid (∀ W, Calls Try.prog fM #[.int .u8 (xn : Nat)] W fun e w' => e = .returned (.int .u8 (cx : Nat)) ∧ W = w') := Lib.hid fun W => by rw [hx, hcx]; exact HM.out _ W
      have HCX := Lib.hid hcx
      have HC0 := Lib.hid (cd_first m T N fr p hfp)
      have HSP := Lib.hid (fun i => HS.out p wr hfp (by omega) HI.out i)
      clear hx hcx
      generalize hmp : mx m T N fr p = n0 at *
      clear hmp
      go_wp2_with (first | ((with_reducible refine (HM1.out _).mono ?_); rintro e w2 ⟨rfl, rfl⟩))
      go_loopg [12] n0 (fun n s12 wy => s12 = .int .i64 n ∧ Hid (Cd m T N fr p n) ∧ wr = wy)
      case atStart => exact ⟨rfl, HC0, rfl⟩
      case round =>
        obtain ⟨rfl, HC, rfl⟩ := hrel
        have hw1 : IntKind.i64.wrap ((gk : Int) + 1) = (gk : Int) + 1 := IntWalk.i64_in _ (by have := HC.out.2.1; omega)
        have hwp : IntKind.i64.wrap ((p : Int) + 1) = (p : Int) + 1 := IntWalk.i64_in _ (by omega)
        have hgn : gk ≤ nl := by rw [← HLN.out]; exact HC.out.1.2.1
        have hgp := HC.out.2.1
        by_cases hlt : gk < nl
        · have hlti : ((gk : Int) == nl) = false := by simp; omega
          obtain ⟨yn, hy⟩ : ∃ x, x = (N[gk]?.getD 0).toNat := ⟨_, rfl⟩
          have i1 := HIN.out gk yn hlt hy
          by_cases he : mt m T p = mt m N gk
          · have HM2 : Hid (∀ W, Calls Try.prog fM #[.int .u8 (yn : Nat)] W fun e w' => e = .returned (.int .u8 (cx : Nat)) ∧ W = w') := Lib.hid fun W => by rw [hy, HCX.out, he]; exact HM.out _ W
            have HY := Lib.hid (cd_yes hfp HC.out (by rw [HLN.out]; exact hlt) he)
            have HDD : Hid (Calls Try.prog fK (#[.int .i64 p, .int .i64 ((gk : Int) + 1)] ++ kc) wr fun e w' => ∃ b, e = .returned (.bool b) ∧ (b = true → J (p + 1) w') ∧ (b = false → S w')) := Lib.hid (by
              have := HD.out p (gk + 1) wr hfp (by omega) HY.out (by omega) HI.out
              rwa [Int.natCast_succ] at this)
            clear hy he hgp i0 HM1 HC
            go_wp2_with ((with_reducible refine (HM2.out _).mono ?_); rintro e w2 ⟨rfl, rfl⟩)
            (with_reducible refine HDD.out.mono ?_)
            rintro e w3 ⟨b, rfl, h3, h4⟩
            clear HDD HM2
            cases b with
            | false =>
              have H4 := Lib.hid (h4 rfl)
              clear h3 h4
              go_wp2
              (try simp only [Exit.noGoto])
              go_end0
              exact ⟨rfl, .inr H4.out⟩
            | true =>
              have H3 := Lib.hid (h3 rfl)
              clear h3 h4
              go_wp2
              go_roundg gh
              case measure => omega
              case rel => exact ⟨p + 1, by omega, by omega, by go_num, by rw [HY.out]; rfl, H3⟩
          · obtain ⟨cy, hcy⟩ : ∃ c, c = (mt m N gk).toNat := ⟨_, rfl⟩
            have HM2 : Hid (∀ W, Calls Try.prog fM #[.int .u8 (yn : Nat)] W fun e w' => e = .returned (.int .u8 (cy : Nat)) ∧ W = w') := Lib.hid fun W => by rw [hy, hcy]; exact HM.out _ W
            have hne : cy ≠ cx := by
              rw [hcy, HCX.out]
              exact fun e => he (UInt8.toNat.inj e).symm
            have hneb : ((cy : Int) != cx) = true := by simp; omega
            have hned : ((cy : Int) == cx) = false := by simp; omega
            have HNO : Hid (¬ (gk < N.length ∧ mt m T p = mt m N gk)) := Lib.hid fun e => he e.2
            clear hy hcy he i0 HM1 hne
            cases gk with
            | zero =>
              have HY := Lib.hid (cd_none HC.out HNO.out)
              have hlt0 : ((0 : Int) == nl) = false := hlti
              have i10 : ∀ W, (Instr.index 9 (.string sN) (.int .i64 0)).run Try.prog W = .ok (.int .u8 yn) W := i1
              have HJ1 := Lib.hid (HK.out p wr hfp (by omega) HY.out HI.out)
              clear HC HNO hgp hw1
              go_wp2_with (first | ((with_reducible refine (HM2.out _).mono ?_); rintro e w2 ⟨rfl, rfl⟩))
              go_roundg gh
              case measure => omega
              case rel => exact ⟨p + 1, by omega, by omega, by go_num, by rw [HY.out]; rfl, HJ1⟩
            | succ q =>
              have HC2 := Lib.hid (cd_next HC.out (by omega) HNO.out)
              have hcell := HSP.out q (by omega) (by omega)
              have hwq : IntKind.i64.wrap ((q : Int) + 1 - 1) = q := by rw [IntKind.wrap_i64]; omega
              have hq0 : ((q : Int) + 1 == 0) = false := by simp; omega
              rw [Int.natCast_succ] at i1 hlti
              have hqn : (q : Int) < nl := by omega
              have hbq := bd_lt m N q
              change Hid (Cd m T N fr p (bd m N q)) at HC2
              clear HC HNO hgp hw1
              generalize bd m N q = bq at *
              go_wp2_with (first | ((with_reducible refine (HM2.out _).mono ?_); rintro e w2 ⟨rfl, rfl⟩))
              go_roundg bq
              case measure => omega
              case rel => exact ⟨rfl, HC2, rfl⟩
        · obtain rfl : gk = nl := by omega
          have HNO : Hid (¬ (gk < N.length ∧ mt m T p = mt m N gk)) := Lib.hid fun e => by have := HLN.out; omega
          clear i0 HM1
          cases gk with
          | zero => exact absurd HZ.out (Nat.lt_irrefl _)
          | succ q =>
            have HC2 := Lib.hid (cd_next HC.out (by omega) HNO.out)
            have hcell := HSP.out q (by omega) (by omega)
            have hwq : IntKind.i64.wrap ((q : Int) + 1 - 1) = q := by rw [IntKind.wrap_i64]; omega
            have hq0 : ((q : Int) + 1 == 0) = false := by simp; omega
            have hqn : (q : Int) < (q : Int) + 1 := by omega
            have hbq := bd_lt m N q
            change Hid (Cd m T N fr p (bd m N q)) at HC2
            clear HC HNO hgp hw1
            generalize bd m N q = bq at *
            go_wp2
            go_roundg bq
            case measure => omega
            case rel => exact ⟨rfl, HC2, rfl⟩

end Go.Proofs.Ytjifekdjkjnefaa
