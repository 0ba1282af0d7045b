/- The law PointBounds. -/
import Derived.Test.YtnkdbpbfapdfeaaDu
import Derived.BigQuiet
namespace Go.Proofs.Ytnkdbpbfapdfeaa
open Go.RowKit

theorem addL_last {most : Int} {P : List (Int × Int)} {p : Int × Int} (h1 : 1 ≤ most) (h2 : (P.length : Int) ≤ most) : 0 < (addL most P p).length ∧ At (addL most P p) ((addL most P p).length - 1) = p := by
  unfold addL
  split
  · refine ⟨by simp, ?_⟩
    unfold At
    simp
  · match P with
    | [] => simp at *; omega
    | x :: P =>
      refine ⟨by simp, ?_⟩
      unfold At
      simp
set_option maxRecDepth 100000 in
set_option maxHeartbeats 16000000 in
theorem pointBounds_law (z : Int) (hz : 0 ≤ z ∧ z < 256) (A : Option Addr) (xs : List Opn) (n c : Nat) (hn : n = xs.length) (r cl : Int) (w : World) (hR : RK encO 6 w A xs) :
    Calls Try.prog 6 #[.int .u8 z, .slice A n c, .agg #[.int .i64 r, .int .i64 cl]] w fun e w' => e = .returned (.bool true) ∧ Below w.heap.size w w' := by
  have HA := Lib.hid (fun W => awake_any W)
  by_cases hbig : 60 < n
  · have hb : (60 : Int) < n := by omega
    clear hR hn
    go_enter Try.func6, Try.ntmps6
    go_wp2_with (go_at_call 8; (with_reducible refine (HA.out _).mono ?_); rintro e w1 ⟨rfl, hb1⟩; have HB1 := Lib.hid (bel0 (belA (Below.refl w.heap.size w) _) hb1); clear hb1)
    go_ret
    exact ⟨rfl, HB1.out⟩
  · have hb : ¬ (60 : Int) < n := by omega
    have hzb := lt_u8 z
    have ht30 : z.tmod 30 = z % 30 := Int.tmod_eq_emod_of_nonneg hz.1
    have hw64 : IntKind.i64.wrap (z.tmod 30) = z.tmod 30 := by rw [ht30, IntKind.wrap_i64]; omega
    have hwp : IntKind.i64.wrap (1 + z.tmod 30) = z % 30 + 1 := by rw [ht30, IntKind.wrap_i64]; omega
    clear ht30
    have HMD := Lib.hid (fun W (hW : Below (w.alloc (.cells #[.int .i64 r, .int .i64 cl] 30)).heap.size (w.alloc (.cells #[.int .i64 r, .int .i64 cl] 30)) W) => made_any (w.alloc (.cells #[.int .i64 r, .int .i64 cl] 30)) W hW z hz _ rfl)
    have HR := Lib.hid (hR.past (belA (Below.refl _ _) (.cells #[.int .i64 r, .int .i64 cl] 30)))
    have HN := Lib.hid hn
    have HB0 : Hid (Below w.heap.size w (w.alloc (.cells #[.int .i64 r, .int .i64 cl] 30))) := Lib.hid (belA (Below.refl _ _) _)
    have HBX : Hid (∀ W, Below (w.alloc (.cells #[.int .i64 r, .int .i64 cl] 30)).heap.size (w.alloc (.cells #[.int .i64 r, .int .i64 cl] 30)) W → W.cell? ⟨w.heap.size, 0, none⟩ = some (.int .i64 r) ∧ W.cell? ⟨w.heap.size, 1, none⟩ = some (.int .i64 cl) ∧ w.heap.size < W.heap.size) := Lib.hid fun W hW => by
      have g := keep hW (heap_alloc_new w _)
      exact ⟨cell_of_row _ _ 0 _ _ _ g, cell_of_row _ _ 1 _ _ _ g, (Array.getElem?_eq_some_iff.1 g).1⟩
    clear hR hn
    generalize hmz : z % 30 + 1 = mz at *
    have h1z : 1 + z % 30 = mz := by omega
    clear hmz
    go_enter Try.func6, Try.ntmps6
    go_wp2_with (first
      | (go_at_call 8; (with_reducible refine (HA.out _).mono ?_); rintro e w1 ⟨rfl, hb1⟩; have HB1 := Lib.hid hb1; clear hb1)
      | (go_at_call 9; (with_reducible refine (HMD.out _ HB1.out).mono ?_); rintro e w2 ⟨D, M, rfl, ht⟩; have HT2 := Lib.hid ht; clear ht))
    generalize w.alloc (.cells #[.int .i64 r, .int .i64 cl] 30) = wa at *
    go_loopw [9] (fun q wr => ∃ i : Nat, q = .int .i64 i ∧ i ≤ n ∧ Hid (∃ P L next, T2 wa wr D M mz P L next ∧ next ≤ i)) (fun q _ => n - (intOf q).toNat)
    case atStart => exact ⟨0, rfl, Nat.zero_le _, Lib.hid ⟨[], [], 0, HT2.out, Nat.le_refl _⟩⟩
    case round =>
      obtain ⟨i, rfl, hi, HO⟩ := hrel
      by_cases hlt : i < n
      · have hii : (i : Int) < n := by omega
        obtain ⟨P, L, next, ht, hnx⟩ := HO.out
        obtain ⟨b, off, rfl, hG⟩ := HR.out.op (fun e => by have := HN.out; rw [e] at this; simp at this; omega)
        obtain ⟨G0, GA⟩ := hG _ ht.1.choose_spec.b
        obtain ⟨z0, z1, z2, z3, z4, z5⟩ := GA i (by have := HN.out; omega)
        have HD := Lib.hid (does_any wa wr D M mz P L next ht hzb.1 (by omega) (by omega) (Oz xs i).1 (Oz xs i).2.1 (Oz xs i).2.2.1 (Oz xs i).2.2.2.1 (Oz xs i).2.2.2.2.1 (Oz xs i).2.2.2.2.2)
        have HPL := Lib.hid (fun w3 P3 L3 next3 (h3 : T2 wa w3 D M mz P3 L3 next3) => (h3.looks (by omega : mz ≤ 100)))
        clear ht hG GA HO
        generalize Oz xs i = x at *
        unfold DPost at HD
        go_wp2_with (first
          | (go_at_call 10; (with_reducible refine (HD.out).mono ?_); rintro e w3 ⟨rfl, P3, L3, next3, ht3, hn3⟩; have HT3 := Lib.hid ht3; obtain ⟨v3, hlk⟩ := HPL.out _ _ _ _ ht3 (by omega); have HLK := Lib.hid hlk; have hle3 : ¬ mz < (P3.length : Int) := Int.not_lt.2 ht3.2.2.2; clear ht3 hlk; generalize hlen3 : P3.length = m3 at *; clear hlen3)
          | (go_at_call 11; (with_reducible refine (HLK.out.len _ (Below.refl _ _)).mono ?_); rintro e w' ⟨rfl, rfl⟩)
          | (go_at_call 15; (with_reducible refine (HLK.out.places _ (Below.refl _ _)).mono ?_); rintro e7 w7 ⟨A7, c7, rfl, hb7, hr7⟩; have HC7 := Lib.hid hb7; clear hr7 hb7)
          | (go_at_call 11; (with_reducible refine (HLK.out.len _ HC7.out).mono ?_); rintro e w' ⟨rfl, rfl⟩))
        go_roundw
        case rel => exact ⟨i + 1, by go_num, hlt, Lib.hid ⟨P3, L3, next3, HT3.out.past HC7.out, by omega⟩⟩
        case measure => simp [intOf]; omega
      · obtain rfl : i = n := by omega
        have hii : ¬ (i : Int) < i := by omega
        obtain ⟨P, L, next, ht, hnx⟩ := HO.out
        obtain ⟨⟨v, ht0⟩, hrel, hnc, hlen⟩ := ht
        obtain ⟨x0, x1, xl⟩ := HBX.out _ ht0.b
        have HT0 := Lib.hid ht0
        cases h1 : num r with
        | false =>
          have hok : okP r cl = false := by unfold okP; rw [h1]; rfl
          have HAD := Lib.hid (fun W => add_wrong W D r cl hok)
          have HPL := Lib.hid (fun W (hW : Below wr.heap.size wr W) => places_any (HT0.out.s.past hW) (by omega))
          have H1 := Lib.hid (refRight_as r _ h1)
          clear ht0 hrel hnc hlen h1 hok HO
          go_wp2_with (first
            | (go_at_call 22; (with_reducible refine (HAD.out _).mono ?_); rintro e w3 ⟨rfl, hb3⟩; have HB3 := Lib.hid hb3; clear hb3)
            | (go_at_call 15; (with_reducible refine (HPL.out _ HB3.out).mono ?_); rintro e w4 ⟨A4, c4, rfl, hb4, hr4⟩; have HB4 := Lib.hid (bel0 HT0.out.b (bel0 HB3.out hb4)); obtain ⟨y0, y1, yl⟩ := HBX.out _ HB4.out; clear hb4 hr4)
            | (go_at_call 23; (with_reducible refine (H1.out _).mono ?_); rintro e w' ⟨rfl, rfl⟩))
          go_ret
          exact ⟨rfl, bel0 HB0.out HB4.out⟩
        | true =>
          cases h2 : num cl with
          | false =>
            have hok : okP r cl = false := by unfold okP; rw [h2, Bool.and_false]
            have HAD := Lib.hid (fun W => add_wrong W D r cl hok)
            have HPL := Lib.hid (fun W (hW : Below wr.heap.size wr W) => places_any (HT0.out.s.past hW) (by omega))
            have H1 := Lib.hid (refRight_as r _ h1)
            have H2 := Lib.hid (refRight_as cl _ h2)
            clear ht0 hrel hnc hlen h1 h2 hok HO
            go_wp2_with (first
              | (go_at_call 22; (with_reducible refine (HAD.out _).mono ?_); rintro e w3 ⟨rfl, hb3⟩; have HB3 := Lib.hid hb3; clear hb3)
              | (go_at_call 15; (with_reducible refine (HPL.out _ HB3.out).mono ?_); rintro e w4 ⟨A4, c4, rfl, hb4, hr4⟩; have HB4 := Lib.hid (bel0 HT0.out.b (bel0 HB3.out hb4)); obtain ⟨y0, y1, yl⟩ := HBX.out _ HB4.out; clear hb4 hr4)
              | (go_at_call 23; (with_reducible refine (H1.out _).mono ?_); rintro e w' ⟨rfl, rfl⟩)
              | (go_at_call 23; (with_reducible refine (H2.out _).mono ?_); rintro e w' ⟨rfl, rfl⟩))
            go_ret
            exact ⟨rfl, bel0 HB0.out HB4.out⟩
          | true =>
            have hok : okP r cl = true := by unfold okP; rw [h1, h2]; rfl
            have HAD := Lib.hid (add_any ht0.s r cl hok hzb.1 (by omega))
            have hal := addL_len (p := (r, cl)) hlen
            have hla := addL_last (p := (r, cl)) hzb.1 hlen
            have HPL : Hid (∀ w3, PPost wr D v mz (addL mz P (r, cl)) w3 → Below wa.heap.size wa w3 ∧ Calls Try.prog 15 #[.pointer (some ⟨D, 0, none⟩)] w3 fun e w' => ∃ A c, e = .returned (.slice A (addL mz P (r, cl)).length c) ∧ Below w3.heap.size w3 w' ∧ RPl w' w'.heap.size A (addL mz P (r, cl))) := Lib.hid fun w3 hp => by
              obtain ⟨v3, ht3⟩ := HT0.out.stepS hp
              exact ⟨ht3.b, places_any ht3.s (by omega)⟩
            have H1 := Lib.hid (refRight_as r _ h1)
            have H2 := Lib.hid (refRight_as cl _ h2)
            have E := fun W => eqPos_self W r cl
            have hg := guardPos
            clear ht0 hrel hnc hlen h1 h2 hok HO
            generalize addL mz P (r, cl) = P5 at *
            obtain ⟨hl0, hl1⟩ := hla
            have HL1 := Lib.hid hl1
            clear hl1
            have hi0 : (0 : Int) < P5.length := by omega
            have hwl : IntKind.i64.wrap ((P5.length : Int) - 1) = (P5.length : Int) - 1 := by rw [IntKind.wrap_i64]; omega
            go_wp2_with (first
              | (go_at_call 22; (with_reducible refine (HAD.out).mono ?_); rintro e w3 ⟨rfl, hp3⟩; obtain ⟨hb3, hpl3⟩ := HPL.out _ hp3; have HB3 := Lib.hid hb3; have HP3 := Lib.hid hpl3; clear hb3 hp3 hpl3)
              | (go_at_call 15; (with_reducible refine (HP3.out).mono ?_); rintro e w4 ⟨A4, c4, rfl, hb4, hr4⟩; have HB4 := Lib.hid (bel0 HB3.out hb4); have HR4 := Lib.hid hr4; obtain ⟨y0, y1, yl⟩ := HBX.out _ HB4.out; clear hb4 hr4)
              | (go_at_call 23; (with_reducible refine (H1.out _).mono ?_); rintro e w' ⟨rfl, rfl⟩)
              | (go_at_call 23; (with_reducible refine (H2.out _).mono ?_); rintro e w' ⟨rfl, rfl⟩))
            obtain ⟨b4, o4, rfl, hG4⟩ := HR4.out.at (fun e => by rw [e] at hl0; simp at hl0)
            obtain ⟨G4, GA4⟩ := hG4 _ (Below.refl _ _)
            obtain ⟨k5, hk5⟩ : ∃ k5 : Nat, P5.length - 1 = k5 := ⟨_, rfl⟩
            rw [hk5] at HL1
            obtain ⟨t0, t1⟩ := GA4 k5 (by omega)
            rw [HL1.out] at t0 t1
            have hwl2 : IntKind.i64.wrap ((P5.length : Int) - 1) = (k5 : Int) := by rw [hwl]; omega
            have hlt5 : (k5 : Int) < P5.length := by omega
            have hal' : decide ((P5.length : Int) ≤ mz) = true := decide_eq_true hal
            clear hG4 GA4 hal hk5 hwl HL1
            have hdl0 : decide (0 < P5.length) = true := decide_eq_true hl0
            go_quiet (fail)
            go_wp2
            go_ret
            exact ⟨rfl, bel0 HB0.out (bel0 HB4.out (belN' w4 nq))⟩
end Go.Proofs.Ytnkdbpbfapdfeaa
