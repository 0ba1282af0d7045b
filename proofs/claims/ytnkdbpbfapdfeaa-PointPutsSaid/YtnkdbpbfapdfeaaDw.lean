/- The law PointPuts. -/
import Derived.Test.YtnkdbpbfapdfeaaDu
import Derived.Test.YtnkdbpbfapdfeaaDh
namespace Go.Proofs.Ytnkdbpbfapdfeaa
open Go.RowKit

/-- Both are handed other places. -/
structure Puts (w0 w : World) (D M m c : Nat) (A0 : Option Addr) (most : Int) (i : Nat) (ok : Bool) : Prop where
  s : Calls Try.prog 17 #[.pointer (some ⟨D, 0, none⟩), .slice A0 m c] w fun e w' => e = .returned (.int .i64 (if ok = true then 0 else 1)) ∧ (Calls Try.prog 18 #[.pointer (some ⟨M, 0, none⟩), .slice A0 m c] w' fun e w2 => e = .returned (.bool ok) ∧ ∃ P L next, T2 w0 w2 D M most P L next ∧ next ≤ i)
theorem T2.puts {w0 w : World} {D M : Nat} {most : Int} {P : List (Int × Int)} {L : List Tr} {next i : Nat} (h : T2 w0 w D M most P L next) (hm : most ≤ 100) (hn : next ≤ i) (hi : 100 ≤ i) (A0 : Option Addr) (l : List (Int × Int)) (c : Nat) (hr : RPl w0 w0.heap.size A0 l) :
    ∃ ok, Puts w0 w D M l.length c A0 most i ok := by
  obtain ⟨⟨v, ht⟩, hrel, hnc, hlen⟩ := h
  have hLl := hrel.len
  by_cases hml : l.length = P.length
  · cases ha : allRight l with
    | false =>
      refine ⟨false, ⟨?_⟩⟩
      have h1 := put_wrong2 ht.s A0 l c hml (by omega) (hr.past ht.b) ha
      rw [← hml] at h1
      refine h1.mono fun e w' ⟨he, hb⟩ => ⟨he, ?_⟩
      have ht1 := ht.past hb
      obtain ⟨u, hq⟩ := ht1.m
      have h2 := rputs_any hq A0 l c (by omega) (by omega) (hr.past ht1.b) (fun b off hne e hM => by
        obtain ⟨b', off', e', hl, _⟩ := hr hne
        rw [e] at e'
        injection e' with e'
        injection e' with e1 _ _
        have := ht.m0
        omega)
      rw [hLl, ← hml, ha] at h2
      refine h2.mono fun e w2 ⟨he, hp⟩ => ⟨he, ?_⟩
      rcases hp with ⟨_, hb2⟩ | ⟨h0, _⟩
      · exact ⟨P, L, next, ⟨⟨v, ht1.past hb2⟩, hrel, hnc, hlen⟩, hn⟩
      · cases h0
    | true =>
      refine ⟨true, ⟨?_⟩⟩
      have h1 := put_ok ht.s A0 l c hml (by omega) (hr.past ht.b) ha
      rw [← hml] at h1
      refine h1.mono fun e w' ⟨he, hp⟩ => ⟨he, ?_⟩
      obtain ⟨v', ht1⟩ := ht.stepS hp
      obtain ⟨u, hq⟩ := ht1.m
      have h2 := rputs_any hq A0 l c (by omega) (by omega) (hr.past ht1.b) (fun b off hne e hM => by
        obtain ⟨b', off', e', hl, _⟩ := hr hne
        rw [e] at e'
        injection e' with e'
        injection e' with e1 _ _
        have := ht.m0
        omega)
      rw [hLl, ← hml, ha] at h2
      refine h2.mono fun e w2 ⟨he, hp⟩ => ⟨he, ?_⟩
      rcases hp with ⟨h0, _⟩ | ⟨_, hq2⟩
      · cases h0
      · exact ⟨l, putR l, l.length, ⟨⟨v', ht1.stepM hq hq2⟩, Rel.put l, NC.put ha, by omega⟩, by omega⟩
  · refine ⟨false, ⟨?_⟩⟩
    refine (put_wrong1 ht.s A0 l.length c hml).mono fun e w' ⟨he, hb⟩ => ⟨he, ?_⟩
    have ht1 := ht.past hb
    obtain ⟨u, hq⟩ := ht1.m
    exact (rput_len hq A0 l.length c (by omega)).mono fun e w2 ⟨he, hb2⟩ => ⟨he, P, L, next, ⟨⟨v, ht1.past hb2⟩, hrel, hnc, hlen⟩, hn⟩

set_option maxRecDepth 100000 in
set_option maxHeartbeats 16000000 in
theorem pointPuts_law (z : Int) (hz : 0 ≤ z ∧ z < 256) (A : Option Addr) (xs : List Opn) (n c : Nat) (hn : n = xs.length) (A0 : Option Addr) (l : List (Int × Int)) (n0 c0 : Nat) (hn0 : n0 = l.length) (hc0 : n0 ≤ c0) (w : World) (hR : RK encO 6 w A xs) (hR0 : RPl w w.heap.size A0 l) :
    Calls Try.prog 4 #[.int .u8 z, .slice A n c, .slice A0 n0 c0] w fun e w' => e = .returned (.bool true) ∧ Below w.heap.size w w' := by
  have HA := Lib.hid (fun W => awake_any W)
  by_cases hbig : 60 < n
  · have hb : (60 : Int) < n := by omega
    clear hR hn hR0 hn0
    go_enter Try.func4, Try.ntmps4
    go_wp2_with (go_at_call 8; (with_reducible refine (HA.out _).mono ?_); rintro e w1 ⟨rfl, hb1⟩; have HB1 := Lib.hid hb1; clear hb1)
    go_ret
    exact ⟨rfl, HB1.out⟩
  · by_cases hbig0 : 60 < n0
    · have hb : ¬ (60 : Int) < n := by omega
      have hd : decide ((60 : Int) < n) = false := decide_eq_false hb
      have hb0 : (60 : Int) < n0 := by omega
      clear hR hn hR0 hn0
      go_enter Try.func4, Try.ntmps4
      go_wp2_with (go_at_call 8; (with_reducible refine (HA.out _).mono ?_); rintro e w1 ⟨rfl, hb1⟩; have HB1 := Lib.hid hb1; clear hb1)
      go_ret
      exact ⟨rfl, HB1.out⟩
    · have hb : ¬ (60 : Int) < n := by omega
      have hb0 : ¬ (60 : Int) < n0 := by omega
      have hzb := lt_u8 z
      have HMD := Lib.hid (fun W (hW : Below w.heap.size w W) => made_any w W hW z hz _ rfl)
      have HR := Lib.hid hR
      have HN := Lib.hid hn
      have HR0 : Hid (∀ m, m ≤ n0 → RPl w w.heap.size A0 (l.take m) ∧ (l.take m).length = m) := Lib.hid fun m hm => by
        refine ⟨fun hne => ?_, by rw [List.length_take]; omega⟩
        obtain ⟨b, off, e, hbl, hcc⟩ := hR0 (fun e => by rw [e] at hne; simp at hne)
        refine ⟨b, off, e, hbl, fun k hk => ?_⟩
        have hk2 : k < m ∧ k < l.length := by rw [List.length_take] at hk; omega
        rw [List.getElem?_take, if_pos hk2.1]
        exact hcc k hk2.2
      clear hR hn hR0 hn0
      generalize z % 30 + 1 = mz at *
      go_enter Try.func4, Try.ntmps4
      go_wp2_with (first
        | (go_at_call 8; (with_reducible refine (HA.out _).mono ?_); rintro e w1 ⟨rfl, hb1⟩; have HB1 := Lib.hid hb1; clear hb1)
        | (go_at_call 9; (with_reducible refine (HMD.out _ HB1.out).mono ?_); rintro e w2 ⟨D, M, rfl, ht⟩; have HT2 := Lib.hid ht; clear ht))
      go_loopw [2, 9] (fun s q wr => ∃ i m : Nat, s = .slice A0 m c0 ∧ q = .int .i64 i ∧ i ≤ n ∧ m ≤ n0 ∧ Hid (∃ P L next, T2 w wr D M mz P L next ∧ next ≤ 100 + i)) (fun _ q _ => n - (intOf q).toNat)
      case atStart => exact ⟨0, n0, rfl, rfl, Nat.zero_le _, Nat.le_refl _, Lib.hid ⟨[], [], 0, HT2.out, by omega⟩⟩
      case round =>
        obtain ⟨i, m, rfl, rfl, hi, hm, HO⟩ := hrel
        by_cases hlt : i < n
        · have hii : (i : Int) < n := by omega
          obtain ⟨P, L, next, ht, hnx⟩ := HO.out
          obtain ⟨b, off, rfl, hG⟩ := HR.out.op (fun e => by have := HN.out; rw [e] at this; simp at this; omega)
          obtain ⟨G0, GA⟩ := hG _ ht.1.choose_spec.b
          obtain ⟨z0, z1, z2, z3, z4, z5⟩ := GA i (by have := HN.out; omega)
          have HD := Lib.hid (does_any w wr D M mz P L next ht hzb.1 (by omega) (by omega) (Oz xs i).1 (Oz xs i).2.1 (Oz xs i).2.2.1 (Oz xs i).2.2.2.1 (Oz xs i).2.2.2.2.1 (Oz xs i).2.2.2.2.2)
          have HPL := Lib.hid (fun w3 P3 L3 next3 (h3 : T2 w w3 D M mz P3 L3 next3) => (h3.looks (by omega : mz ≤ 100)))
          clear ht hG GA HO
          generalize Oz xs i = x at *
          unfold DPost at HD
          obtain ⟨hf, hhf⟩ : ∃ hf : Nat, n / 2 = hf := ⟨_, rfl⟩
          have hdiv : ((n : Int)).tdiv 2 = (hf : Int) := by rw [Int.tdiv_eq_ediv_of_nonneg (by omega)]; omega
          have hdiv2 : ((n : Int)) / 2 = (hf : Int) := by omega
          clear hhf
          by_cases hmid : i = hf
          · have hmb : ((i : Int) == (hf : Int)) = true := by simp only [beq_iff_eq]; omega
            clear hmid
            go_wp2_with (go_at_call 10; (with_reducible refine (HD.out).mono ?_); rintro e w3 ⟨rfl, P3, L3, next3, ht3, hn3⟩; have HT3 := Lib.hid ht3; obtain ⟨v3, hlk⟩ := HPL.out _ _ _ _ ht3 (by omega); obtain ⟨A3, c3, rfl, hcell⟩ := hlk.cell; obtain ⟨u2, u2l⟩ := hcell _ (Below.refl _ _); have hP3 : (P3.length : Int) ≤ mz := ht3.2.2.2; clear ht3 hlk hcell)
            · have HPUTS : Hid (∀ q, q ≤ n0 → ∃ ok, Puts w w3 D M q c0 A0 mz (100 + (i + 1)) ok) := Lib.hid fun q hq => by
                obtain ⟨h1, h2⟩ := HR0.out q hq
                have := HT3.out.puts (by omega) (show next3 ≤ 100 + (i + 1) by omega) (by omega) A0 (l.take q) c0 h1
                rwa [h2] at this
              obtain ⟨ok, hpt⟩ := HPUTS.out (P3.length + m % 2) (by omega)
              have h1 := hpt.s
              clear hpt
              cases ok
              all_goals
                simp only [if_true, Bool.false_eq_true, if_false] at h1
                have HPT := Lib.hid h1
                clear h1
                go_wp2_with (first
                  | (go_at_call 17; (with_reducible refine (HPT.out).mono ?_); rintro e w4 ⟨rfl, hc⟩; have HC := Lib.hid hc; clear hc)
                  | (go_at_call 18; (with_reducible refine (HC.out).mono ?_); rintro e w5 ⟨rfl, hE⟩; have HE := Lib.hid hE; clear hE))
                go_roundw
                case rel => exact ⟨i + 1, P3.length + m % 2, rfl, by go_num, hlt, by omega, HE⟩
                case measure => simp [intOf]; omega
            · have HPUTS : Hid (∀ q, q ≤ n0 → ∃ ok, Puts w w3 D M q c0 A0 mz (100 + (i + 1)) ok) := Lib.hid fun q hq => by
                obtain ⟨h1, h2⟩ := HR0.out q hq
                have := HT3.out.puts (by omega) (show next3 ≤ 100 + (i + 1) by omega) (by omega) A0 (l.take q) c0 h1
                rwa [h2] at this
              obtain ⟨ok, hpt⟩ := HPUTS.out (m) (by omega)
              have h1 := hpt.s
              clear hpt
              cases ok
              all_goals
                simp only [if_true, Bool.false_eq_true, if_false] at h1
                have HPT := Lib.hid h1
                clear h1
                go_wp2_with (first
                  | (go_at_call 17; (with_reducible refine (HPT.out).mono ?_); rintro e w4 ⟨rfl, hc⟩; have HC := Lib.hid hc; clear hc)
                  | (go_at_call 18; (with_reducible refine (HC.out).mono ?_); rintro e w5 ⟨rfl, hE⟩; have HE := Lib.hid hE; clear hE))
                go_roundw
                case rel => exact ⟨i + 1, m, rfl, by go_num, hlt, by omega, HE⟩
                case measure => simp [intOf]; omega
          · have hmb : ((i : Int) == (hf : Int)) = false := by simp only [beq_eq_false_iff_ne, ne_eq]; omega
            clear hmid
            go_wp2_with (go_at_call 10; (with_reducible refine (HD.out).mono ?_); rintro e w3 ⟨rfl, P3, L3, next3, ht3, hn3⟩; have HT3 := Lib.hid ht3; obtain ⟨v3, hlk⟩ := HPL.out _ _ _ _ ht3 (by omega); obtain ⟨A3, c3, rfl, hcell⟩ := hlk.cell; obtain ⟨u2, u2l⟩ := hcell _ (Below.refl _ _); clear ht3 hlk hcell)
            go_roundw
            case rel => exact ⟨i + 1, m, rfl, by go_num, hlt, hm, Lib.hid ⟨P3, L3, next3, HT3.out, by omega⟩⟩
            case measure => simp [intOf]; omega
        · obtain rfl : i = n := by omega
          have hii : ¬ (i : Int) < i := by omega
          obtain ⟨P, L, next, ht, hnx⟩ := HO.out
          have HT := Lib.hid ht.1.choose_spec.b
          obtain ⟨v3, hlk⟩ := ht.looks (by omega) (by omega)
          have HLK := Lib.hid hlk
          clear ht hlk HO
          generalize P.length = m3 at *
          generalize hSS : srt P = S3 at *
          clear hSS
          go_wp2_with (first
            | (go_at_call 13; (with_reducible refine (HLK.out.list _ (Below.refl _ _)).mono ?_); rintro e4 w4 ⟨A4, c4, rfl, hb4, hr4⟩; have HB4 := Lib.hid hb4; have HR4 := Lib.hid hr4; clear hb4 hr4)
            | (go_at_call 14; (with_reducible refine (HLK.out.rlist _ HB4.out).mono ?_); rintro e5 w5 ⟨A5, c5, rfl, hb5, hr5⟩; have HR45 := Lib.hid (HR4.out.past hb5); have HB5 := Lib.hid (bel0 HB4.out hb5); have HR5 := Lib.hid hr5; clear hb5 hr5)
            | (go_at_call 12; (with_reducible refine (HLK.out.sameS _ A4 A5 c4 c5 HR45.out HR5.out).mono ?_); rintro e6 w6 ⟨rfl, hb6⟩; have HB6 := Lib.hid (bel0 HB5.out hb6); clear hb6)
            | (go_at_call 15; (with_reducible refine (HLK.out.places _ HB6.out).mono ?_); rintro e7 w7 ⟨A7, c7, rfl, hb7, hr7⟩; have HB7 := Lib.hid (bel0 HB6.out hb7); have HR7 := Lib.hid hr7; clear hb7 hr7)
            | (go_at_call 16; (with_reducible refine (HLK.out.rplaces _ HB7.out).mono ?_); rintro e8 w8 ⟨A8, c8, rfl, hb8, hr8⟩; have HR78 := Lib.hid (HR7.out.past hb8); have HB8 := Lib.hid (bel0 HB7.out hb8); have HR8 := Lib.hid hr8; clear hb8 hr8)
            | (go_at_call 12; (with_reducible refine (HLK.out.sameP _ A7 A8 c7 c8 HR78.out HR8.out).mono ?_); rintro e9 w9 ⟨rfl, hb9⟩; have HB9 := Lib.hid (bel0 HB8.out hb9); clear hb9))
          go_ret
          exact ⟨rfl, bel0 HT.out HB9.out⟩
end Go.Proofs.Ytnkdbpbfapdfeaa
