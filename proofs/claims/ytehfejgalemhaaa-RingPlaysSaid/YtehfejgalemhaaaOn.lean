/- The law RingKeeps. -/
import Derived.Test.YtehfejgalemhaaaOm
namespace Go.Proofs.Ytehfejgalemhaaa
open Go.RowKit

theorem pushL_last (room : Nat) (L : List (Int × Bool)) (r : Int × Bool) (h : L.length ≤ room) (h0 : 0 < room) : ∃ T, pushL room L r = T ++ [r] := by
  unfold pushL
  split
  · exact ⟨L, rfl⟩
  · cases L with
    | nil => simp at *; omega
    | cons a t => exact ⟨t, rfl⟩
theorem len_t (w0 w : World) (D M room : Nat) (g1 : Int) (L1 : List (Int × Bool)) (B1 : Nat) (g2 : Int) (L2 : List (Int × Bool)) (B2 : Nat) (h : T2 w0 w D M room g1 L1 B1 g2 L2 B2) : Calls Try.prog 11 #[.pointer (some ⟨D, 0, none⟩)] w fun e w' => e = .returned (.int .i64 L1.length) ∧ w = w' := by
  obtain ⟨A, c, xs, A', c', xs', h1, _⟩ := h
  exact (len_any w D _ room g1 L1 xs h1).mono fun e w' hp => ⟨hp.1, hp.2.symm⟩
theorem at_t (w0 w : World) (D M room : Nat) (g1 : Int) (T : List (Int × Bool)) (r : Int × Bool) (B1 : Nat) (g2 : Int) (L2 : List (Int × Bool)) (B2 : Nat) (h : T2 w0 w D M room g1 (T ++ [r]) B1 g2 L2 B2) (hl : T.length ≤ 1000) :
    Calls Try.prog 19 #[.pointer (some ⟨D, 0, none⟩), .int .i64 T.length] w fun e w' => ∃ g c, e = .returned (.tuple #[.agg #[.slice (some ⟨g, 0, none⟩) 1 c, .bool r.2], .bool true]) ∧ Below w.heap.size w w' ∧ RV (fun _ => True) w' (.slice (some ⟨g, 0, none⟩) 1 c) (.bool r.2) r := by
  obtain ⟨A, c, xs, A', c', xs', h1, _⟩ := h
  refine (at_any w D _ room g1 (T ++ [r]) xs h1 T.length (by simp) (by simp; omega)).mono fun e w' hp => ?_
  obtain ⟨g, c, h1, h2, h3⟩ := hp
  rw [show (T ++ [r])[T.length]?.getD (0, false) = r by simp] at h1 h3
  exact ⟨g, c, h1, h2, h3.mono fun _ _ _ => trivial⟩
theorem at_none_t (w0 w : World) (D M room : Nat) (g1 : Int) (L1 : List (Int × Bool)) (B1 : Nat) (g2 : Int) (L2 : List (Int × Bool)) (B2 : Nat) (h : T2 w0 w D M room g1 L1 B1 g2 L2 B2) :
    Calls Try.prog 19 #[.pointer (some ⟨D, 0, none⟩), .int .i64 (-1)] w fun e w' => e = .returned (.tuple #[.agg #[.slice none 0 0, .bool false], .bool false]) ∧ Below w.heap.size w w' := by
  obtain ⟨A, c, xs, A', c', xs', h1, _⟩ := h
  exact at_out w D _ room g1 L1 xs h1 (-1) (.inl (by decide))

set_option maxRecDepth 100000 in
set_option maxHeartbeats 8000000 in
theorem ringKeeps_law (x : Int) (A : Option Addr) (xs : List (Int × Int)) (n cp : Nat) (hn : n = xs.length) (hx0 : 0 ≤ x) (hx1 : x ≤ 255) (w : World) (hR : ROp w w.heap.size A xs) :
    Calls Try.prog 4 #[.int .u8 x, .slice A n cp] w fun e w' => e = .returned (.bool true) ∧ Below w.heap.size w w' := by
  by_cases h80 : (80 : Int) < n
  · clear hn hR
    go_enter Try.func4, Try.ntmps4
    go_wp2_with (go_at_call 8; (with_reducible refine (awake_any _).mono ?_); rintro e w0 ⟨rfl, hb0⟩; have HB0 := Lib.hid hb0; clear hb0)
    go_ret
    exact ⟨rfl, HB0.out⟩
  · have hn80 : (n : Int) ≤ 80 := by omega
    have hd80 : decide (80 < (n : Int)) = false := decide_eq_false h80
    obtain ⟨room, rfl⟩ := Int.eq_ofNat_of_zero_le hx0
    have hr255 : room ≤ 255 := by omega
    have HR := Lib.hid hR
    have HN := Lib.hid hn
    have HAW := Lib.hid (awake_any w)
    have HNEW := Lib.hid (fun W => new_any room (by omega) W)
    have hw1 : IntKind.i64.wrap (room : Int) = room := IntWalk.i64_in _ (by omega)
    clear hR hn h80
    go_enter Try.func4, Try.ntmps4
    go_wp2_with (first
      | (go_at_call 8; go_must (with_reducible refine HAW.out.mono ?_; rintro e1 w1 ⟨rfl, hb1⟩; have HB1 := Lib.hid hb1; clear hb1 HAW))
      | (go_at_call 9; go_must (with_reducible refine (HNEW.out _).mono ?_; rintro e2 w2 ⟨rfl, hb2, hq2⟩; have HT0 := Lib.hid (T3.start HB1.out hb2 (hq2 _)); clear hb2 hq2 HNEW)))
    generalize w1.heap.size = D at *
    generalize w2.heap.size = M at *
    go_loopw [8] (fun i wr => ∃ k : Nat, k ≤ n ∧ i = .int .i64 k ∧ Hid (T3 w wr D M room)) (fun i _ => n - (intOf i).toNat)
    case atStart => exact ⟨0, Nat.zero_le _, rfl, HT0⟩
    case round =>
      obtain ⟨k, hk, rfl, HT⟩ := hrel
      clear HT0 HB1
      by_cases hlt : k < n
      · have hki : (k : Int) < n := by omega
        obtain ⟨b, off, z0, z1, rfl, hbl, c0, c1⟩ := HR.out.at HT.out.below k (by have := HN.out; omega)
        have HDO := Lib.hid (does_done w wr D M room (by omega) HT.out z0 z1)
        unfold DonePost at HDO
        have HROW : Hid (∀ W, Calls Try.prog 17 #[.int .i64 5] W fun e w' => ∃ g c, e = .returned (.agg #[.slice (some ⟨g, 0, none⟩) 1 c, .bool (rowZ 5).2]) ∧ Below W.heap.size W w' ∧ RV (fun _ => True) w' (.slice (some ⟨g, 0, none⟩) 1 c) (.bool (rowZ 5).2) (rowZ 5)) := Lib.hid fun W => row_q 5 (by omega) W
        generalize rowZ 5 = r5 at *
        have hm40 : room ≤ 1000000 := by omega
        go_wp2_with (first
          | (go_at_call 10; go_must ((with_reducible refine HDO.out.mono ?_); rintro e3 w3 ⟨rfl, ht⟩; obtain ⟨g, L, B1, B2, ht3, hl3, hg3⟩ := ht; have HT3 := Lib.hid ht3; have HG3 := Lib.hid hg3; have hd3 : decide ((room : Int) < L.length) = false := decide_eq_false (by omega); have hd4 : decide (room < L.length) = false := decide_eq_false (by omega); have HL3 := Lib.hid hl3; clear ht3 hg3 hl3 HDO))
          | (go_at_call 11; (with_reducible refine (len_t w w3 D M room g L B1 g L B2 HT3.out).mono ?_); rintro e w' ⟨rfl, rfl⟩))
        have hl3 := HL3.out
        have HPL : Hid (∀ (W : World) (g5 c5 : Nat), T2 w W D M room g L B1 g L B2 → RV (fun _ => True) W (.slice (some ⟨g5, 0, none⟩) 1 c5) (.bool r5.2) r5 → Calls Try.prog 16 #[.pointer (some ⟨D, 0, none⟩), .agg #[.slice (some ⟨g5, 0, none⟩) 1 c5, .bool r5.2]] W fun e w' => ∃ u v, e = .returned (.tuple #[u, v]) ∧ T2 w w' D M room (pushG room g L) (pushL room L r5) w'.heap.size g L B2) := Lib.hid fun W g5 c5 ht hr => (push_t w W D M room g L B1 g L B2 ht r5 _ _ hr (by omega) hm40).mono fun e w' hp => by
          obtain ⟨A6, n6, c6, e6, h6, _⟩ := hp
          exact ⟨_, _, e6, h6⟩
        have HPR : Hid (∀ (W : World) (g5 c5 Bx : Nat), T2 w W D M room (pushG room g L) (pushL room L r5) Bx g L B2 → RV (fun _ => True) W (.slice (some ⟨g5, 0, none⟩) 1 c5) (.bool r5.2) r5 → Calls Try.prog 18 #[.pointer (some ⟨M, 0, none⟩), .agg #[.slice (some ⟨g5, 0, none⟩) 1 c5, .bool r5.2]] W fun e w' => ∃ u v, e = .returned (.tuple #[u, v]) ∧ T2 w w' D M room (pushG room g L) (pushL room L r5) Bx (pushG room g L) (pushL room L r5) w'.heap.size) := Lib.hid fun W g5 c5 Bx ht hr => (rpush_t w W D M room _ _ Bx g L B2 ht r5 _ _ hr (by omega)).mono fun e w' hp => by
          obtain ⟨A6, n6, c6, e6, h6, _⟩ := hp
          exact ⟨_, _, e6, h6⟩
        have HLE := Lib.hid (pushL_len room L r5 hl3)
        have HLA := Lib.hid (pushL_last room L r5 hl3)
        have HGW := Lib.hid (pushG_wrap room g L HG3.out)
        clear hl3
        generalize pushL room L r5 = L' at *
        generalize pushG room g L = g' at *
        rcases Nat.eq_zero_or_pos room with h0 | h0
        · have HL0 : Hid (L'.length = 0) := Lib.hid (by have := HLE.out; omega)
          have hgt : decide ((0 : Int) < room) = false := decide_eq_false (by omega)
          have hgn : decide (0 < room) = false := decide_eq_false (by omega)
          clear HLA h0
          go_wp2_with (first
            | (go_at_call 17; (with_reducible refine (HROW.out _).mono ?_); rintro e5 w5 ⟨g5, c5, rfl, hb5, hr5⟩; have HT5 := Lib.hid (HT3.out.past hb5); have HR5 := Lib.hid hr5; clear hb5 hr5 HT3)
            | (go_at_call 16; (with_reducible refine (HPL.out _ _ _ HT5.out HR5.out).mono ?_); rintro e6 w6 ⟨u6, v6, rfl, ht6⟩; have HT6 := Lib.hid ht6; clear ht6 HPL HT5 HR5)
            | (go_at_call 17; (with_reducible refine (HROW.out _).mono ?_); rintro e7 w7 ⟨g7, c7, rfl, hb7, hr7⟩; have HT7 := Lib.hid (HT6.out.past hb7); have HR7 := Lib.hid hr7; clear hb7 hr7 HT6)
            | (go_at_call 18; (with_reducible refine (HPR.out _ _ _ _ HT7.out HR7.out).mono ?_); rintro e8 w8 ⟨u8, v8, rfl, ht8⟩; have HT8 := Lib.hid ht8; clear ht8 HPR HT7 HR7)
            | (go_at_call 11; (with_reducible refine (len_t w w8 D M room g' L' _ g' L' _ HT8.out).mono ?_); rintro e w' ⟨rfl, rfl⟩; rw [HL0.out])
            | (go_at_call 19; (with_reducible refine (at_none_t w w8 D M room g' L' _ g' L' _ HT8.out).mono ?_); rintro e9 w9 ⟨rfl, hb9⟩; have HT9 := Lib.hid (HT8.out.past (bel0 (Below.refl _ _) (belA hb9 (.cells #[.slice none 0 0, .bool false] 43)))); clear hb9))
          refine wp_region_quiet_lit (by kernel_rfl) (by kernel_rfl) ?_
          repeat (any_goals (first | go_big_quiet_step (fail) | quiet_step (fail)))
          refine wpQuiet_nil ?_
          intro _ hw'
          obtain ⟨nq, hw''⟩ := hw'
          subst hw''
          have HTF : Hid (T3 w ((w9.alloc (.cells #[.slice none 0 0, .bool false] 43)).drewN nq) D M room) := Lib.hid ⟨g', L', _, _, HT9.out.past (belN _ _), HLE.out, HGW.out⟩
          go_wp2
          go_roundw
          case rel => exact ⟨k + 1, hlt, by go_num, HTF⟩
          case measure => simp [intOf]; omega
        · obtain ⟨T, hT⟩ := HLA.out h0
          subst hT
          have htl : T.length ≤ 1000 := by have := HLE.out; simp at this; omega
          have HLL : Hid ((((T ++ [r5]).length : Nat) : Int) = (T.length : Int) + 1) := Lib.hid (by simp)
          have HAT : Hid (∀ (W : World) (Bx By : Nat), T2 w W D M room g' (T ++ [r5]) Bx g' (T ++ [r5]) By → Calls Try.prog 19 #[.pointer (some ⟨D, 0, none⟩), .int .i64 T.length] W fun e w' => ∃ g c, e = .returned (.tuple #[.agg #[.slice (some ⟨g, 0, none⟩) 1 c, .bool r5.2], .bool true]) ∧ Below W.heap.size W w' ∧ RV (fun _ => True) w' (.slice (some ⟨g, 0, none⟩) 1 c) (.bool r5.2) r5) := Lib.hid fun W Bx By ht => at_t w W D M room g' T r5 Bx g' (T ++ [r5]) By ht htl
          have hti : (T.length : Int) ≤ 1000 := by omega
          have hgt : (0 : Int) < room := by omega
          have hgt2 : decide ((0 : Int) < room) = true := decide_eq_true hgt
          clear HLA htl
          generalize hTn : T.length = tn at *
          clear hTn
          go_wp2_with (first
            | (go_at_call 17; (with_reducible refine (HROW.out _).mono ?_); rintro e5 w5 ⟨g5, c5, rfl, hb5, hr5⟩; have HT5 := Lib.hid (HT3.out.past hb5); have HR5 := Lib.hid hr5; clear hb5 hr5 HT3)
            | (go_at_call 16; (with_reducible refine (HPL.out _ _ _ HT5.out HR5.out).mono ?_); rintro e6 w6 ⟨u6, v6, rfl, ht6⟩; have HT6 := Lib.hid ht6; clear ht6 HPL HT5 HR5)
            | (go_at_call 17; (with_reducible refine (HROW.out _).mono ?_); rintro e7 w7 ⟨g7, c7, rfl, hb7, hr7⟩; have HT7 := Lib.hid (HT6.out.past hb7); have HR7 := Lib.hid hr7; clear hb7 hr7 HT6)
            | (go_at_call 18; (with_reducible refine (HPR.out _ _ _ _ HT7.out HR7.out).mono ?_); rintro e8 w8 ⟨u8, v8, rfl, ht8⟩; have HT8 := Lib.hid ht8; clear ht8 HPR HT7 HR7)
            | (go_at_call 11; (with_reducible refine (len_t w w8 D M room g' (T ++ [r5]) _ g' (T ++ [r5]) _ HT8.out).mono ?_); rintro e w' ⟨rfl, rfl⟩; rw [HLL.out])
            | (go_at_call 19; (with_reducible refine (HAT.out _ _ _ HT8.out).mono ?_); rintro e9 w9 ⟨g9, c9, rfl, hb9, hr9⟩; have HT9 := Lib.hid (HT8.out.past hb9); have HR9 := Lib.hid hr9; clear hb9 hr9 HT8 HAT))
          have HT7 := Lib.hid (HT9.out.past (belA (Below.refl _ _) (.cells #[.slice (some ⟨g9, 0, none⟩) 1 c9, .bool r5.2] 43)))
          have HO7 : Hid (∀ W, Below (w9.alloc (.cells #[.slice (some ⟨g9, 0, none⟩) 1 c9, .bool r5.2] 43)).heap.size (w9.alloc (.cells #[.slice (some ⟨g9, 0, none⟩) 1 c9, .bool r5.2] 43)) W → RVo (fun _ => True) W (.slice (some ⟨g9, 0, none⟩) 1 c9) (.bool r5.2) (some r5)) := Lib.hid fun W hW => RV.past HR9.out (bel1 (Below.refl _ _) hW)
          have h7 := heap_alloc_new w9 (.cells #[.slice (some ⟨g9, 0, none⟩) 1 c9, .bool r5.2] 43)
          have hs7 : w9.heap.size < (w9.alloc (.cells #[.slice (some ⟨g9, 0, none⟩) 1 c9, .bool r5.2] 43)).heap.size := by simp
          clear HT9 HR9
          generalize w9.alloc (.cells #[.slice (some ⟨g9, 0, none⟩) 1 c9, .bool r5.2] 43) = wa at *
          generalize w9.heap.size = B6 at *
          generalize hq5 : r5.2 = q5 at *
          have HQ5 := Lib.hid hq5
          clear hq5
          have hS : (wa.cell? ⟨B6, 0, none⟩ = some (.slice (some ⟨g9, 0, none⟩) 1 c9) ∧ wa.cell? ⟨B6, 1, none⟩ = some (.bool q5) ∧ wa.cell? ⟨B6, 0, none⟩ = some (.slice (some ⟨g9, 0, none⟩) 1 c9) ∧ wa.cell? ⟨B6, 1, none⟩ = some (.bool q5)) ∧ (B6 < wa.heap.size ∧ B6 < wa.heap.size ∧ B6 < wa.heap.size ∧ B6 < wa.heap.size) ∧ Below wa.heap.size wa wa := ⟨⟨cell_of_row _ _ 0 _ _ _ h7, cell_of_row _ _ 1 _ _ _ h7, cell_of_row _ _ 0 _ _ _ h7, cell_of_row _ _ 1 _ _ _ h7⟩, ⟨hs7, hs7, hs7, hs7⟩, Below.refl _ _⟩
          have hSd := four_step (a1 := ⟨B6, 0, none⟩) (a2 := ⟨B6, 1, none⟩) (a3 := ⟨B6, 0, none⟩) (a4 := ⟨B6, 1, none⟩) hS (Below.refl wa.heap.size wa).drew
          have HONE : Hid (∀ W g c, Below wa.heap.size wa W → RV (fun _ => True) W (.slice (some ⟨g, 0, none⟩) 1 c) (.bool q5) r5 → Calls Try.prog 20 #[.agg #[.slice (some ⟨g9, 0, none⟩) 1 c9, .bool q5], .agg #[.slice (some ⟨g, 0, none⟩) 1 c, .bool q5]] W fun e w' => e = .returned (.bool true) ∧ Below W.heap.size W w') := Lib.hid fun W g c hW hr => one_any _ _ _ _ (some r5) W (HO7.out W hW) hr
          clear hS h7 hs7 HO7
          go_region_held3 (fun W => (W.cell? ⟨B6, 0, none⟩ = some (.slice (some ⟨g9, 0, none⟩) 1 c9) ∧ W.cell? ⟨B6, 1, none⟩ = some (.bool q5) ∧ W.cell? ⟨B6, 0, none⟩ = some (.slice (some ⟨g9, 0, none⟩) 1 c9) ∧ W.cell? ⟨B6, 1, none⟩ = some (.bool q5)) ∧ (B6 < W.heap.size ∧ B6 < W.heap.size ∧ B6 < W.heap.size ∧ B6 < W.heap.size) ∧ Below wa.heap.size wa W)
            (first | exact hSd | exact four_step (a1 := ⟨B6, 0, none⟩) (a2 := ⟨B6, 1, none⟩) (a3 := ⟨B6, 0, none⟩) (a4 := ⟨B6, 1, none⟩) hSd hbx | exact four_step (a1 := ⟨B6, 0, none⟩) (a2 := ⟨B6, 1, none⟩) (a3 := ⟨B6, 0, none⟩) (a4 := ⟨B6, 1, none⟩) (by assumption) hbx | assumption)
            (first
              | (go_at_call 17; (with_reducible refine (HROW.out _).mono ?_); rintro ea wb ⟨gb, cb, rfl, hbx, hrb⟩; have HRB := Lib.hid hrb; clear hrb)
              | (go_at_call 20; (with_reducible refine (HONE.out _ _ _ ?_ HRB.out).mono ?_); (first | exact hSd.2.2 | exact four_below (by assumption)); rintro eb wc ⟨rfl, hbx⟩))
          all_goals
            have HTF := Lib.hid (HT7.out.past (four_below (a1 := ⟨B6, 0, none⟩) (a2 := ⟨B6, 1, none⟩) (a3 := ⟨B6, 0, none⟩) (a4 := ⟨B6, 1, none⟩) (by assumption)))
            go_wp2
            go_roundw
            case rel => exact ⟨k + 1, hlt, by go_num, Lib.hid ⟨g', _, _, _, HTF.out, HLE.out, HGW.out⟩⟩
            case measure => simp [intOf]; omega
      · go_wp2
        go_ret
        exact ⟨rfl, HT.out.below⟩
end Go.Proofs.Ytehfejgalemhaaa
