/- The law PointPlays. -/
import Derived.Test.YtnkdbpbfapdfeaaDt
import Derived.Deep.RegionHeld3
namespace Go.Proofs.Ytnkdbpbfapdfeaa
open Go.RowKit

theorem lt_u8 (z : Int) : 1 ≤ z % 30 + 1 ∧ z % 30 + 1 ≤ 30 := by
  have h1 : z % 30 < 30 := Int.emod_lt_of_pos _ (by decide)
  have h2 : 0 ≤ z % 30 := Int.emod_nonneg _ (by decide)
  omega
/-- All that a look at both stores answers. -/
structure Looks (w1 : World) (D M m : Nat) (P S : List (Int × Int)) (v : Value) : Prop where
  len : ∀ W, Below w1.heap.size w1 W → Calls Try.prog 11 #[.pointer (some ⟨D, 0, none⟩)] W fun e w' => e = .returned (.int .i64 m) ∧ w' = W
  list : ∀ W, Below w1.heap.size w1 W → Calls Try.prog 13 #[.pointer (some ⟨D, 0, none⟩)] W fun e w' => ∃ A c, e = .returned (.slice A m c) ∧ Below W.heap.size W w' ∧ RPl w' w'.heap.size A S
  places : ∀ W, Below w1.heap.size w1 W → Calls Try.prog 15 #[.pointer (some ⟨D, 0, none⟩)] W fun e w' => ∃ A c, e = .returned (.slice A m c) ∧ Below W.heap.size W w' ∧ RPl w' w'.heap.size A P
  rlist : ∀ W, Below w1.heap.size w1 W → Calls Try.prog 14 #[.pointer (some ⟨M, 0, none⟩)] W fun e w' => ∃ A c, e = .returned (.slice A m c) ∧ Below W.heap.size W w' ∧ RPl w' w'.heap.size A S
  rplaces : ∀ W, Below w1.heap.size w1 W → Calls Try.prog 16 #[.pointer (some ⟨M, 0, none⟩)] W fun e w' => ∃ A c, e = .returned (.slice A m c) ∧ Below W.heap.size W w' ∧ RPl w' w'.heap.size A P
  sameS : ∀ W A A' c c', RPl W W.heap.size A S → RPl W W.heap.size A' S → Calls Try.prog 12 #[.slice A m c, .slice A' m c'] W fun e w' => e = .returned (.bool true) ∧ Below W.heap.size W w'
  sameP : ∀ W A A' c c', RPl W W.heap.size A P → RPl W W.heap.size A' P → Calls Try.prog 12 #[.slice A m c, .slice A' m c'] W fun e w' => e = .returned (.bool true) ∧ Below W.heap.size W w'
  cell : ∃ A c, v = .slice A m c ∧ ∀ W, Below w1.heap.size w1 W → W.cell? ⟨M, 2, none⟩ = some (.slice A m c) ∧ M < W.heap.size
theorem T2.looks {w0 w : World} {D M : Nat} {most : Int} {P : List (Int × Int)} {L : List Tr} {next : Nat} (h : T2 w0 w D M most P L next) (hm : most ≤ 100) (hn : next ≤ 1000) : ∃ v, Looks w D M P.length P (srt P) v := by
  obtain ⟨⟨v, ht⟩, hrel, hnc, hlen⟩ := h
  have hLl := hrel.len
  have hl := hrel.list
  have hp := hrel.places
  obtain ⟨u, hq⟩ := ht.m
  obtain ⟨A, c, rfl, hc, hf, hr⟩ := hq.row
  rw [hLl] at hq
  refine ⟨_, fun W hW => len_any (ht.s.past hW), fun W hW => list_any (ht.s.past hW) (by omega), fun W hW => places_any (ht.s.past hW) (by omega), fun W hW => ?_, fun W hW => ?_, fun W A A' c c' h1 h2 => samePlaces_any A A' (srt P) _ _ c c' (srt_len P).symm (srt_len P).symm (by omega) W h1 h2, fun W A A' c c' h1 h2 => samePlaces_any A A' P _ _ c c' rfl rfl (by omega) W h1 h2, A, c, rfl, fun W hW => ⟨(hq.past hW).cells.1.2.2, (hq.past hW).lt⟩⟩
  · have := rlist_any (hq.past hW) (by omega)
    rwa [hl, hLl] at this
  · have := rplaces_any (hq.past hW) (by omega) hn
    rwa [hp] at this
def SK (w1 : World) (M : Nat) (v : Value) (W : World) : Prop := W.cell? ⟨M, 2, none⟩ = some v ∧ M < W.heap.size ∧ Below w1.heap.size w1 W
theorem SK.below {w1 W : World} {M : Nat} {v : Value} (h : W.cell? ⟨M, 2, none⟩ = some v ∧ M < W.heap.size ∧ Below w1.heap.size w1 W) : Below w1.heap.size w1 W := h.2.2
set_option maxRecDepth 100000 in
set_option maxHeartbeats 16000000 in
theorem pointPlays_law (z : Int) (hz : 0 ≤ z ∧ z < 256) (A : Option Addr) (xs : List Opn) (n c : Nat) (hn : n = xs.length) (w : World) (hR : RK encO 6 w A xs) :
    Calls Try.prog 3 #[.int .u8 z, .slice A n c] w fun e w' => e = .returned (.bool true) ∧ Below w.heap.size w w' := by
  have HA := Lib.hid (fun W => awake_any W)
  by_cases hbig : 60 < n
  · have hb : (60 : Int) < n := by omega
    clear hR hn
    go_enter Try.func3, Try.ntmps3
    go_wp2_with (go_at_call 8; (with_reducible refine (HA.out _).mono ?_); rintro e w1 ⟨rfl, hb1⟩; have HB1 := Lib.hid hb1; clear hb1)
    go_ret
    exact ⟨rfl, HB1.out⟩
  · have hb : ¬ (60 : Int) < n := by omega
    have hzb := lt_u8 z
    have HMD := Lib.hid (fun W (hW : Below w.heap.size w W) => made_any w W hW z hz _ rfl)
    have HR := Lib.hid hR
    have HN := Lib.hid hn
    clear hR hn
    generalize z % 30 + 1 = mz at *
    go_enter Try.func3, Try.ntmps3
    go_wp2_with (first
      | (go_at_call 8; (with_reducible refine (HA.out _).mono ?_); rintro e w1 ⟨rfl, hb1⟩; have HB1 := Lib.hid hb1; clear hb1)
      | (go_at_call 9; (with_reducible refine (HMD.out _ HB1.out).mono ?_); rintro e w2 ⟨D, M, rfl, ht⟩; have HT2 := Lib.hid ht; clear ht))
    go_loopw [7] (fun q wr => ∃ i : Nat, q = .int .i64 i ∧ i ≤ n ∧ Hid (∃ P L next, T2 w wr D M mz P L next ∧ next ≤ i)) (fun q _ => n - (intOf q).toNat)
    case atStart => exact ⟨0, rfl, Nat.zero_le _, Lib.hid ⟨[], [], 0, HT2.out, Nat.le_refl _⟩⟩
    case round =>
      obtain ⟨i, rfl, hi, HO⟩ := hrel
      by_cases hlt : i < n
      · have hii : (i : Int) < n := by omega
        obtain ⟨P, L, next, ht, hnx⟩ := HO.out
        obtain ⟨b, off, rfl, hG⟩ := HR.out.op (fun e => by have := HN.out; rw [e] at this; simp at this; omega)
        obtain ⟨G0, GA⟩ := hG _ ht.1.choose_spec.b
        obtain ⟨z0, z1, z2, z3, z4, z5⟩ := GA i (by have := HN.out; omega)
        have HD := Lib.hid (does_any w wr D M mz P L next ht hzb.1 (by omega) (by omega) (Oz xs i).1 (Oz xs i).2.1 (Oz xs i).2.2.1 (Oz xs i).2.2.2.1 (Oz xs i).2.2.2.2.1 (Oz xs i).2.2.2.2.2)
        clear ht hG GA HO
        generalize Oz xs i = x at *
        unfold DPost at HD
        go_wp2_with (go_at_call 10; (with_reducible refine (HD.out).mono ?_); rintro e w3 ⟨rfl, P3, L3, next3, ht3, hn3⟩; have HT3 := Lib.hid ht3; clear ht3)
        obtain ⟨v3, hlk⟩ := HT3.out.looks (by omega) (by omega)
        obtain ⟨A3, c3, rfl, hcell⟩ := hlk.cell
        have HLK := Lib.hid hlk
        have HCL := Lib.hid hcell
        have HOUT : Hid (∀ W, Below w3.heap.size w3 W → ∃ P L next, T2 w W D M mz P L next ∧ next ≤ i + 1) := Lib.hid fun W hW => ⟨P3, L3, next3, HT3.out.past hW, by omega⟩
        clear hlk hcell z0 z1 z2 z3 z4 z5 G0
        generalize P3.length = m at *
        generalize hSS : srt P3 = S3 at *
        clear hSS
        have hSd : w3.drew.cell? ⟨M, 2, none⟩ = some (.slice A3 m c3) ∧ M < w3.drew.heap.size ∧ Below w3.heap.size w3 w3.drew := ⟨(HCL.out _ (Below.refl _ _).drew).1, (HCL.out _ (Below.refl _ _).drew).2, (Below.refl _ _).drew⟩
        have HSK : Hid (∀ W, Below w3.heap.size w3 W → W.cell? ⟨M, 2, none⟩ = some (.slice A3 m c3) ∧ M < W.heap.size ∧ Below w3.heap.size w3 W) := Lib.hid fun W hW => ⟨(HCL.out _ hW).1, (HCL.out _ hW).2, hW⟩
        go_wp2_with fail
        go_region_held3 (fun W => W.cell? ⟨M, 2, none⟩ = some (.slice A3 m c3) ∧ M < W.heap.size ∧ Below w3.heap.size w3 W)
          (first | exact hSd | assumption | exact HSK.out _ HC9.out | exact HSK.out _ HC8.out | exact HSK.out _ HC7.out | exact HSK.out _ HC6.out | exact HSK.out _ HC5.out | exact HSK.out _ HC4.out)
          (first
            | (go_at_call 11; (with_reducible refine (HLK.out.len _ ?_).mono ?_); (exact SK.below (by assumption)); rintro e w' ⟨rfl, rfl⟩)
            | (go_at_call 13; (with_reducible refine (HLK.out.list _ ?_).mono ?_); (exact SK.below (by assumption)); rintro e4 w4 ⟨A4, c4, rfl, hb4, hr4⟩; have HB4 := Lib.hid hb4; have HR4 := Lib.hid hr4; have HC4 : Hid (Below w3.heap.size w3 w4) := Lib.hid (bel0 (SK.below (by assumption)) hb4); clear hb4 hr4)
            | (go_at_call 14; (with_reducible refine (HLK.out.rlist _ ?_).mono ?_); (exact SK.below (by assumption)); rintro e5 w5 ⟨A5, c5, rfl, hb5, hr5⟩; have HB5 := Lib.hid hb5; have HR5 := Lib.hid hr5; have HC5 : Hid (Below w3.heap.size w3 w5) := Lib.hid (bel0 (SK.below (by assumption)) hb5); clear hb5 hr5)
            | (go_at_call 12; (first | (with_reducible refine (HLK.out.sameS _ A4 A5 c4 c5 (HR4.out.past HB5.out) HR5.out).mono ?_) | (with_reducible refine (HLK.out.sameS _ A4 A5 c4 c5 HR4.out (HR5.out.past HB4.out)).mono ?_)); rintro e6 w6 ⟨rfl, hb6⟩; have HC6 : Hid (Below w3.heap.size w3 w6) := Lib.hid (bel0 (SK.below (by assumption)) hb6); clear hb6)
            | (go_at_call 15; (with_reducible refine (HLK.out.places _ ?_).mono ?_); (exact SK.below (by assumption)); rintro e7 w7 ⟨A7, c7, rfl, hb7, hr7⟩; have HB7 := Lib.hid hb7; have HR7 := Lib.hid hr7; have HC7 : Hid (Below w3.heap.size w3 w7) := Lib.hid (bel0 (SK.below (by assumption)) hb7); clear hb7 hr7)
            | (go_at_call 16; (with_reducible refine (HLK.out.rplaces _ ?_).mono ?_); (exact SK.below (by assumption)); rintro e8 w8 ⟨A8, c8, rfl, hb8, hr8⟩; have HB8 := Lib.hid hb8; have HR8 := Lib.hid hr8; have HC8 : Hid (Below w3.heap.size w3 w8) := Lib.hid (bel0 (SK.below (by assumption)) hb8); clear hb8 hr8)
            | (go_at_call 12; (first | (with_reducible refine (HLK.out.sameP _ A7 A8 c7 c8 (HR7.out.past HB8.out) HR8.out).mono ?_) | (with_reducible refine (HLK.out.sameP _ A7 A8 c7 c8 HR7.out (HR8.out.past HB7.out)).mono ?_)); rintro e9 w9 ⟨rfl, hb9⟩; have HC9 : Hid (Below w3.heap.size w3 w9) := Lib.hid (bel0 (SK.below (by assumption)) hb9); clear hb9))
        all_goals
          go_wp2
          go_roundw
          case rel => exact ⟨i + 1, by go_num, hlt, Lib.hid (HOUT.out _ HC9.out)⟩
          case measure => simp [intOf]; omega
      · obtain rfl : i = n := by omega
        have hii : ¬ (i : Int) < i := by omega
        have HF : Hid (Below w.heap.size w wr) := Lib.hid (by
          obtain ⟨P, L, next, ht, _⟩ := HO.out
          exact ht.1.choose_spec.b)
        clear HO
        go_wp2
        go_ret
        exact ⟨rfl, HF.out⟩
end Go.Proofs.Ytnkdbpbfapdfeaa
