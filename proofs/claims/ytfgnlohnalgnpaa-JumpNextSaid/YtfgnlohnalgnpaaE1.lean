/- The law JumpNext. -/
import Derived.Test.YtfgnlohnalgnpaaJ9
namespace Go.Proofs.Ytfgnlohnalgnpaa
open Go.RowKit

theorem near_flag (at_ : Int) (l : List Int) : ∀ k, k ≤ l.length → (nearV at_ (l.take k)).2 = decide (0 < k)
  | 0, _ => rfl
  | k + 1, h => by
    unfold nearV
    rw [best_snoc _ _ l k (by omega)]
    have : (stp (fun _ => true) (nearB at_) (bestV (fun _ => true) (nearB at_) (l.take k)) (l[k]?.getD 0)).2 = true := by
      have h1 := near_flag at_ l k (by omega)
      unfold nearV at h1
      generalize bestV (fun _ => true) (nearB at_) (l.take k) = s at *
      unfold stp
      obtain ⟨v, f⟩ := s
      cases f <;> simp <;> split <;> rfl
    rw [this]
    simp
theorem near_step (at_ : Int) (l : List Int) (k : Nat) (h : k < l.length) : (nearV at_ (l.take (k + 1))).1 = if k = 0 then l[k]?.getD 0 else if nearB at_ (l[k]?.getD 0) (nearV at_ (l.take k)).1 then l[k]?.getD 0 else (nearV at_ (l.take k)).1 := by
  have h1 := near_flag at_ l k (by omega)
  have h2 := best_snoc (fun _ => true) (nearB at_) l k h
  change nearV at_ (l.take (k + 1)) = stp _ _ (nearV at_ (l.take k)) _ at h2
  rw [h2]
  generalize nearV at_ (l.take k) = s at *
  obtain ⟨v, f⟩ := s
  simp only at h1
  subst h1
  unfold stp
  by_cases hk : k = 0
  · subst hk; simp
  · have : 0 < k := by omega
    simp only [this, decide_true, Bool.not_true, Bool.false_eq_true, if_false, if_true, hk]
    split <;> rfl
theorem near_in (at_ : Int) (l : List Int) (hin : ∀ x ∈ l, InB x) (k : Nat) : InB (nearV at_ (l.take k)).1 := bestV_in l hin k
set_option maxRecDepth 100000 in
set_option maxHeartbeats 8000000 in
theorem jumpNext_law (A : Option Addr) (l : List Int) (n c : Nat) (hn : n = l.length) (hin : ∀ x ∈ l, InB x) (at_ : Int) (ha : InB at_) (w : World) (h : RI w w.heap.size A l) :
    Calls Try.prog 3 #[.slice A n c, .int .i64 at_] w fun e w' => e = .returned (.bool true) ∧ Below w.heap.size w w' := by
  have HAW := Lib.hid awake_any
  by_cases hl : n ≤ 100
  · have hli : ¬ (100 : Int) < n := by omega
    have HN := Lib.hid hn
    have HR := Lib.hid h
    have HP := Lib.hid (fun W h => nextF_any A l n c hn (by omega) hin at_ W h)
    have HA := Lib.hid (fun W h => aheadF_any A l n c hn (by omega) hin at_ W h)
    have HE := Lib.hid (fun W h => nearF_any A l n c hn (by omega) hin at_ ha W h)
    have HPR := Lib.hid (fun W h => refNext_any A l n c hn (by omega) at_ W h)
    have HAR := Lib.hid (fun W h => refAhead_any A l n c hn (by omega) at_ W h)
    have HNI := Lib.hid (near_in at_ l hin)
    have HXI : Hid (∀ k, k < n → InB (l[k]?.getD 0)) := Lib.hid fun k hk => hin _ (nthI_mem (hn ▸ hk))
    have HAI := Lib.hid ha
    have HFL : Hid ((nearV at_ l).2 = decide ((0 : Int) < n)) := Lib.hid <| by
      have := near_flag at_ l n (by omega)
      rw [List.take_of_length_le (by omega)] at this
      rw [this]
      exact decide_eq_decide.2 (by omega)
    have HST : Hid (∀ k, k < n → _) := Lib.hid fun k hk => near_step at_ l k (hn ▸ hk)
    have HLA : Hid (nearV at_ (l.take n) = nearV at_ l) := Lib.hid (by rw [List.take_of_length_le (by omega)])
    clear h hn hin ha
    obtain ⟨s1, hs1⟩ : ∃ s, s = nextV at_ l := ⟨_, rfl⟩
    obtain ⟨s2, hs2⟩ : ∃ s, s = aheadV at_ l := ⟨_, rfl⟩
    obtain ⟨s3, hs3⟩ : ∃ s, s = nearV at_ l := ⟨_, rfl⟩
    rw [← hs1] at HP HPR
    rw [← hs2] at HA HAR
    rw [← hs3] at HE HFL HLA
    clear hs1 hs2 hs3
    obtain ⟨a1, b1⟩ := s1
    obtain ⟨a2, b2⟩ := s2
    obtain ⟨a3, b3⟩ := s3
    have hb3 : b3 = decide ((0 : Int) < n) := HFL.out
    clear HFL
    go_enter Try.func3, Try.ntmps3
    go_wp2_with (first
      | (go_at_call 9; (with_reducible refine (HAW.out w).mono ?_); rintro e w1 ⟨rfl, hb⟩; have HR1 := Lib.hid (HR.out.past hb); have HB1 := Lib.hid hb; clear hb HR)
      | (go_at_call 10; (with_reducible refine (HP.out w1 HR1.out).mono ?_); rintro e w2 ⟨rfl, hb⟩; have HR2 := Lib.hid (HR1.out.past hb); have HB2 := Lib.hid (bel0 HB1.out hb); clear hb HR1 HB1 HP)
      | (go_at_call 11; (with_reducible refine (HA.out w2 HR2.out).mono ?_); rintro e w3 ⟨rfl, hb⟩; have HR3 := Lib.hid (HR2.out.past hb); have HB3 := Lib.hid (bel0 HB2.out hb); clear hb HR2 HB2 HA)
      | (go_at_call 12; (with_reducible refine (HE.out w3 HR3.out).mono ?_); rintro e w4 ⟨rfl, hb⟩; have HR4 := Lib.hid (HR3.out.past hb); have HB4 := Lib.hid (bel0 HB3.out hb); clear hb HR3 HB3 HE)
      | (go_at_call 13; (with_reducible refine (HPR.out w4 HR4.out).mono ?_); rintro e w5 ⟨rfl, rfl⟩; clear HPR)
      | (go_at_call 14; (with_reducible refine (HAR.out _ HR4.out).mono ?_); rintro e w6 ⟨rfl, rfl⟩; clear HAR))
    go_loopg [15, 16] n (fun gh s15 s16 wx => ∃ k : Nat, k + gh = n ∧ s16 = .int .i64 k ∧ s15 = .int .i64 (nearV at_ (l.take k)).1 ∧ wx = w6)
    case atStart => exact ⟨0, by omega, rfl, rfl, rfl⟩
    case round =>
      obtain ⟨k, hk, rfl, rfl, rfl⟩ := hrel
      cases gk with
      | zero =>
        obtain rfl : k = n := by omega
        have e1 : (nearV at_ (l.take k)).1 = a3 := by rw [HLA.out]
        rw [e1]
        clear e1
        subst hb3
        go_wp2
        go_ret
        exact ⟨rfl, HB4.out⟩
      | succ gh =>
        have hlt : k < n := by omega
        have hki : (k : Int) < n := by omega
        obtain ⟨bb, off, e, hblt, hc⟩ := HR4.out (fun e => by have := HN.out; rw [e] at this; simp at this; omega)
        subst e
        have hck := hc k (HN.out ▸ hlt)
        have HS := Lib.hid (HST.out k hlt)
        have HX := Lib.hid (HXI.out k hlt)
        have HV := Lib.hid (HNI.out k)
        clear hc hblt HST HXI HNI HR4
        obtain ⟨s', hs'⟩ : ∃ s', s' = (nearV at_ (l.take (k + 1))).1 := ⟨_, rfl⟩
        have HS' := Lib.hid hs'
        rw [HS.out] at hs'
        clear HS
        generalize (nearV at_ (l.take k)).1 = v at *
        generalize l[k]?.getD 0 = x at *
        have HF : Hid (∀ z, z = x ∨ z = v → ∀ W, Calls Try.prog 15 #[.int .i64 z, .int .i64 at_] W fun e w' => e = .returned (.int .u64 (farI z at_ : Nat)) ∧ W = w') := Lib.hid fun z hz W => far_any z at_ (hz.elim (fun e => e ▸ HX.out) (fun e => e ▸ HV.out)) HAI.out W
        by_cases hk0 : k = 0
        · rw [if_pos hk0] at hs'
          subst hk0
          subst hs'
          change wr.cell? ⟨bb, off, none⟩ = some (Value.int .i64 s') at hck
          go_wp2
          go_roundg gh
          case measure => omega
          case rel => exact ⟨1, by omega, by go_num, by rw [← HS'.out], rfl⟩
        · rw [if_neg hk0] at hs'
          have hki0 : ¬ (k : Int) = 0 := by omega
          have hkb : ((k : Int) == 0) = false := by simp; omega
          unfold nearB at hs'
          rcases Nat.lt_trichotomy (farI x at_) (farI v at_) with hf | hf | hf
          · have hi : ((farI x at_ : Nat) : Int) < (farI v at_ : Nat) := by omega
            simp only [hf, decide_true, Bool.true_or, if_true] at hs'
            subst hs'
            clear hf
            go_wp2_with (go_at_call 15; (with_reducible refine (HF.out _ (by first | exact .inl rfl | exact .inr rfl) _).mono ?_); rintro e w7 ⟨rfl, rfl⟩)
            go_roundg gh
            case measure => omega
            case rel => exact ⟨k + 1, by omega, by go_num, by rw [← HS'.out], rfl⟩
          · have hi : ¬ ((farI x at_ : Nat) : Int) < (farI v at_ : Nat) := by omega
            have hj : ((farI x at_ : Nat) : Int) = (farI v at_ : Nat) := by omega
            by_cases hxv : x < v
            · simp only [hf, hxv, decide_true, Bool.and_self, Bool.or_true, if_true] at hs'
              subst hs'
              clear hf
              go_wp2_with (go_at_call 15; (with_reducible refine (HF.out _ (by first | exact .inl rfl | exact .inr rfl) _).mono ?_); rintro e w7 ⟨rfl, rfl⟩)
              go_roundg gh
              case measure => omega
              case rel => exact ⟨k + 1, by omega, by go_num, by rw [← HS'.out], rfl⟩
            · simp only [hf, hxv, Nat.lt_irrefl, decide_false, Bool.and_false, Bool.or_self, Bool.false_eq_true, if_false] at hs'
              subst hs'
              clear hf
              go_wp2_with (go_at_call 15; (with_reducible refine (HF.out _ (by first | exact .inl rfl | exact .inr rfl) _).mono ?_); rintro e w7 ⟨rfl, rfl⟩)
              all_goals first
                | (exfalso; omega)
                | (go_roundg gh
                   case measure => omega
                   case rel => exact ⟨k + 1, by omega, by go_num, by rw [← HS'.out], rfl⟩)
          · have hi : ¬ ((farI x at_ : Nat) : Int) < (farI v at_ : Nat) := by omega
            have hj : ¬ ((farI x at_ : Nat) : Int) = (farI v at_ : Nat) := by omega
            have h1 : ¬ farI x at_ < farI v at_ := by omega
            have h2 : ¬ farI x at_ = farI v at_ := by omega
            simp only [h1, h2, decide_false, Bool.false_and, Bool.or_self, Bool.false_eq_true, if_false] at hs'
            subst hs'
            clear hf h1 h2
            go_wp2_with (go_at_call 15; (with_reducible refine (HF.out _ (by first | exact .inl rfl | exact .inr rfl) _).mono ?_); rintro e w7 ⟨rfl, rfl⟩)
            all_goals first
              | (exfalso; omega)
              | (go_roundg gh
                 case measure => omega
                 case rel => exact ⟨k + 1, by omega, by go_num, by rw [← HS'.out], rfl⟩)
  · have hli : (100 : Int) < n := by omega
    clear h hn hin ha
    go_enter Try.func3, Try.ntmps3
    go_wp2_with (go_at_call 9; (with_reducible refine (HAW.out w).mono ?_); rintro e w1 ⟨rfl, hb⟩; have HB1 := Lib.hid hb; clear hb)
    go_ret
    exact ⟨rfl, HB1.out⟩

end Go.Proofs.Ytfgnlohnalgnpaa
