/- The law RingPlays. -/
import Derived.Test.YtehfejgalemhaaaOn
import Derived.Test.YtehfejgalemhaaaSw
import Derived.Test.YtehfejgalemhaaaNr
namespace Go.Proofs.Ytehfejgalemhaaa
open Go.RowKit

theorem len_s (w0 w : World) (D M room : Nat) (g1 : Int) (L1 : List (Int × Bool)) (B1 : Nat) (g2 : Int) (L2 : List (Int × Bool)) (B2 : Nat) (h : T2 w0 w D M room g1 L1 B1 g2 L2 B2) : Calls Try.prog 11 #[.pointer (some ⟨D, 0, none⟩)] w fun e w' => e = .returned (.int .i64 L1.length) ∧ w' = w := by
  obtain ⟨A, c, xs, A', c', xs', h1, _⟩ := h
  exact len_any w D _ room g1 L1 xs h1
theorem gone_s (w0 w : World) (D M room : Nat) (g1 : Int) (L1 : List (Int × Bool)) (B1 : Nat) (g2 : Int) (L2 : List (Int × Bool)) (B2 : Nat) (h : T2 w0 w D M room g1 L1 B1 g2 L2 B2) : Calls Try.prog 12 #[.pointer (some ⟨D, 0, none⟩)] w fun e w' => e = .returned (.int .u64 g1) ∧ w' = w := by
  obtain ⟨A, c, xs, A', c', xs', h1, _⟩ := h
  exact gone_any w D _ room g1 L1 xs h1
theorem all_s (w0 w : World) (D M room : Nat) (g1 : Int) (L1 : List (Int × Bool)) (B1 : Nat) (g2 : Int) (L2 : List (Int × Bool)) (B2 : Nat) (h : T2 w0 w D M room g1 L1 B1 g2 L2 B2) (hl : L1.length ≤ 1000) : Calls Try.prog 14 #[.pointer (some ⟨D, 0, none⟩)] w fun e w' => ∃ A c, e = .returned (.slice A L1.length c) ∧ Below w.heap.size w w' ∧ RA (fun _ => True) w' A (L1.map some) := by
  obtain ⟨A, c, xs, A', c', xs', h1, _⟩ := h
  refine (all_any w D _ room g1 L1 xs h1 (by omega)).mono fun e w' hp => ?_
  obtain ⟨ys, h3, h4, h5, h6⟩ := hp
  exact ⟨_, _, h3, h4, RA.of_rows h5 (h6.map fun _ _ _ q => q.mono fun _ _ _ => trivial) rfl⟩
theorem cells_s (w0 w : World) (D M room : Nat) (g1 : Int) (L1 : List (Int × Bool)) (B1 : Nat) (g2 : Int) (L2 : List (Int × Bool)) (B2 : Nat) (h : T2 w0 w D M room g1 L1 B1 g2 L2 B2) : ∃ A' c', (w.cell? ⟨M, 1, none⟩ = some (.slice A' L2.length c') ∧ w.cell? ⟨M, 2, none⟩ = some (.int .u64 g2)) ∧ M < w.heap.size ∧ RA (fun _ => True) w A' (L2.map some) := by
  obtain ⟨A, c, xs, A', c', xs', h1, h2, _⟩ := h
  exact ⟨A', c', ⟨h2.cells.1.2.1, h2.cells.1.2.2⟩, h2.lt, RA.of_rows h2.rows h2.each rfl⟩
theorem room_t3 (w0 w : World) (D M room : Nat) (h : T3 w0 w D M room) : Calls Try.prog 15 #[.pointer (some ⟨D, 0, none⟩)] w fun e w' => e = .returned (.int .i64 room) ∧ w = w' := by
  obtain ⟨g, L, B1, B2, ⟨A, c, xs, A', c', xs', h1, _⟩, _⟩ := h
  exact (room_any w D _ room g L xs h1).mono fun e w' hp => ⟨hp.1, hp.2.symm⟩

set_option maxRecDepth 100000 in
set_option maxHeartbeats 8000000 in
theorem ringPlays_law (x : Int) (A : Option Addr) (xs : List (Int × Int)) (n cp : Nat) (hn : n = xs.length) (hx0 : 0 ≤ x) (hx1 : x ≤ 255) (w : World) (hR : ROp w w.heap.size A xs) :
    Calls Try.prog 3 #[.int .u8 x, .slice A n cp] w fun e w' => e = .returned (.bool true) ∧ Below w.heap.size w w' := by
  by_cases h80 : (80 : Int) < n
  · clear hn hR
    go_enter Try.func3, Try.ntmps3
    go_wp2_with (go_at_call 8; (with_reducible refine (awake_any _).mono ?_); rintro e w0 ⟨rfl, hb0⟩; have HB0 := Lib.hid hb0; clear hb0)
    go_ret
    exact ⟨rfl, HB0.out⟩
  · have hn80 : (n : Int) ≤ 80 := by omega
    have hd80 : decide (80 < (n : Int)) = false := decide_eq_false h80
    obtain ⟨room, rfl⟩ := Int.eq_ofNat_of_zero_le hx0
    have hr255 : room ≤ 255 := by omega
    have HR := Lib.hid hR
    have HN := Lib.hid hn
    have HAW := Lib.hid (awake_any w)
    have HNEW := Lib.hid (fun W => new_any room (by omega) W)
    have hw1 : IntKind.i64.wrap (room : Int) = room := IntWalk.i64_in _ (by omega)
    clear hR hn h80
    go_enter Try.func3, Try.ntmps3
    go_wp2_with (first
      | (go_at_call 8; go_must (with_reducible refine HAW.out.mono ?_; rintro e1 w1 ⟨rfl, hb1⟩; have HB1 := Lib.hid hb1; clear hb1 HAW))
      | (go_at_call 9; go_must (with_reducible refine (HNEW.out _).mono ?_; rintro e2 w2 ⟨rfl, hb2, hq2⟩; have HT0 := Lib.hid (T3.start HB1.out hb2 (hq2 _)); clear hb2 hq2 HNEW)))
    generalize w1.heap.size = D at *
    generalize w2.heap.size = M at *
    go_loopw [8] (fun i wr => ∃ k : Nat, k ≤ n ∧ i = .int .i64 k ∧ Hid (T3 w wr D M room)) (fun i _ => n - (intOf i).toNat)
    case atStart => exact ⟨0, Nat.zero_le _, rfl, HT0⟩
    case round =>
      obtain ⟨k, hk, rfl, HT⟩ := hrel
      clear HT0 HB1
      by_cases hlt : k < n
      · have hki : (k : Int) < n := by omega
        obtain ⟨b, off, z0, z1, rfl, hbl, c0, c1⟩ := HR.out.at HT.out.below k (by have := HN.out; omega)
        have HDO : Hid (∀ W, Below wr.heap.size wr W → Calls Try.prog 10 #[.pointer (some ⟨D, 0, none⟩), .pointer (some ⟨M, 0, none⟩), .agg #[.int .i64 z0, .int .i64 z1]] W fun e w' => e = .returned (.bool true) ∧ T3 w w' D M room) := Lib.hid fun W hW => does_done w W D M room (by omega) (HT.out.past hW) z0 z1
        have hki2 : (k : Int) < (n : Int) := hki
        go_wp2
        refine wp_region_noPanic ?_
        refine seg_start (by kernel_rfl) ?_
        refine seg_quiet 0 6 31 rfl (by kernel_rfl) (by kernel_rfl) (by kernel_rfl) (by kernel_rfl) (by kernel_rfl) (by kernel_rfl) ?_
        simp only [List.take_succ_cons, List.take_zero, List.drop_zero]
        repeat still_step
        refine wpStill_nil ?_
        refine seg_one 6 30 rfl (by kernel_rfl) (fun K hK => ?_)
        go_simp
        refine (HDO.out _ (Below.refl _ _).drew).mono ?_
        rintro e3 w3 ⟨rfl, ht⟩
        refine hK.out _ _ ?_
        clear hK K HDO
        obtain ⟨g, L, B1, B2, ht3, hl3, hg3⟩ := ht
        have HT3 := Lib.hid ht3
        have HG3 := Lib.hid hg3
        have HL3 := Lib.hid hl3
        have HLEN := Lib.hid (len_s w w3 D M room g L B1 g L B2 ht3)
        have HGON := Lib.hid (gone_s w w3 D M room g L B1 g L B2 ht3)
        have HALL := Lib.hid (all_s w w3 D M room g L B1 g L B2 ht3 (by omega))
        obtain ⟨A', c', hm⟩ := cells_s w w3 D M room g L B1 g L B2 ht3
        obtain ⟨m1, m2⟩ := hm.1
        have HSAME := Lib.hid hm.2
        clear hm ht3 hg3 hl3 c0 c1
        generalize hLn : L.length = ln at *
        have HLN := Lib.hid hLn
        clear hLn
        refine seg_quiet 7 20 10 rfl (by kernel_rfl) (by kernel_rfl) (by kernel_rfl) (by kernel_rfl) (by kernel_rfl) (by kernel_rfl) ?_
        simp only [List.take_succ_cons, List.take_zero, List.drop_succ_cons, List.drop_zero]
        still_step
        still_step
        still_step
        still_call HLEN.out
        still_step
        still_step
        still_step
        still_step
        still_step
        still_step
        still_step
        still_step
        still_step
        still_call HGON.out
        still_step
        still_step
        still_step
        still_step
        still_step
        still_step
        refine wpStill_nil ?_
        refine seg_one 27 9 rfl (by kernel_rfl) (fun K hK => ?_)
        go_simp
        refine hK.out _ _ ?_
        clear hK K
        have hS3 : w3.cell? ⟨M, 1, none⟩ = some (.slice A' ln c') ∧ M < w3.heap.size ∧ Below w3.heap.size w3 w3 := ⟨m1, HSAME.out.1, Below.refl _ _⟩
        refine wpAny_of_held (S := fun W => W.cell? ⟨M, 1, none⟩ = some (.slice A' ln c') ∧ M < W.heap.size ∧ Below w3.heap.size w3 W) _ _ _ _ ?_
        refine wpAnyH_take (i := 28) (oi := _) (v := ?_) rfl (by kernel_rfl) (by kernel_rfl) (by kernel_rfl) (fun _ _ _ h => h) (Or.inl ⟨by rfl, ?_⟩) hS3 ?_
        rotate_left
        · intro W hSw
          (try dsimp only at hSw)
          obtain ⟨k1, k2, k3⟩ := hSw
          go_simp
          (try with_reducible rfl)
        refine wpAnyH_take (i := 30) (oi := _) (v := ?_) rfl (by kernel_rfl) (by kernel_rfl) (by kernel_rfl) (fun _ _ _ h => h) (Or.inl ⟨by rfl, ?_⟩) hS3 ?_
        rotate_left
        · intro W hSw
          (try dsimp only at hSw)
          obtain ⟨k1, k2, k3⟩ := hSw
          go_simp
          (try with_reducible rfl)
        refine wpAnyH_take (i := 31) (oi := _) (v := ?_) rfl (by kernel_rfl) (by kernel_rfl) (by kernel_rfl) (fun _ _ _ h => h) (Or.inl ⟨by rfl, ?_⟩) hS3 ?_
        rotate_left
        · intro W hSw
          (try dsimp only at hSw)
          obtain ⟨k1, k2, k3⟩ := hSw
          go_simp
          (try with_reducible rfl)
        refine wpAnyH_take (i := 32) (oi := _) (v := ?_) rfl (by kernel_rfl) (by kernel_rfl) (by kernel_rfl) (fun _ _ _ h => h) (Or.inl ⟨by rfl, ?_⟩) hS3 ?_
        rotate_left
        · intro W hSw
          (try dsimp only at hSw)
          obtain ⟨k1, k2, k3⟩ := hSw
          go_simp
          (try with_reducible rfl)
        refine wpAnyH_take (i := 33) (oi := _) (v := ?_) rfl (by kernel_rfl) (by kernel_rfl) (by kernel_rfl) (fun _ _ _ h => h) (Or.inl ⟨by rfl, ?_⟩) hS3 ?_
        rotate_left
        · intro W hSw
          (try dsimp only at hSw)
          obtain ⟨k1, k2, k3⟩ := hSw
          go_simp
          (try with_reducible rfl)
        refine wpAnyH_ready (rs := [29]) (by kernel_rfl) (by simp) ?_
        refine AllReadyH.cons (o := _) rfl (fun K hK => ?_) AllReadyH.nil
        go_simp
        refine HALL.out.mono ?_
        rintro e8 w8 ⟨A8, c8, rfl, hb8, hr8⟩
        refine hK.out _ _ ⟨(hb8.cell (p := ⟨M, 1, none⟩) hS3.2.1).trans m1, Nat.lt_of_lt_of_le hS3.2.1 hb8.size, hb8⟩ (fun hS8 => ?_)
        clear hK K
        have HRA := Lib.hid hr8
        have HB8 := Lib.hid hb8
        have HSM := Lib.hid (HSAME.out.2.past hb8)
        clear hr8 hb8
        refine wpAnyH_ready (rs := [34]) (by kernel_rfl) (by simp) ?_
        refine AllReadyH.cons (o := _) rfl (fun K hK => ?_) AllReadyH.nil
        go_simp
        refine (same9_any A8 A' (L.map some) ln c8 c' (by rw [List.length_map, HLN.out]) (by have := HL3.out; omega) w8 HRA.out HSM.out).mono ?_
        rintro e9 w9 ⟨rfl, hb9⟩
        refine hK.out _ _ ⟨(hb9.cell (p := ⟨M, 1, none⟩) hS8.2.1).trans hS8.1, Nat.lt_of_lt_of_le hS8.2.1 hb9.size, bel0 HB8.out hb9⟩ (fun hS9 => ?_)
        clear hK K
        refine wpAnyH_take (i := 35) (oi := _) (v := ?_) rfl (by kernel_rfl) (by kernel_rfl) (by kernel_rfl) (fun _ _ _ h => h) (Or.inl ⟨by rfl, ?_⟩) hS9 ?_
        rotate_left
        · intro W hSw
          (try dsimp only at hSw)
          obtain ⟨k1, k2, k3⟩ := hSw
          go_simp
          (try with_reducible rfl)
        refine wpAnyH_take (i := 36) (oi := _) (v := ?_) rfl (by kernel_rfl) (by kernel_rfl) (by kernel_rfl) (fun _ _ _ h => h) (Or.inl ⟨by rfl, ?_⟩) hS9 ?_
        rotate_left
        · intro W hSw
          (try dsimp only at hSw)
          obtain ⟨k1, k2, k3⟩ := hSw
          go_simp
          (try with_reducible rfl)
        refine ⟨by kernel_rfl, NoPanic.normal ?_⟩
        have HTF : Hid (T3 w w9 D M room) := Lib.hid ⟨g, L, B1, B2, HT3.out.past hS9.2.2, by rw [HLN.out]; exact HL3.out, HG3.out⟩
        clear HT3 HG3 HL3 HLN HSM HRA HB8 hS9 hS8 hS3 HLEN HGON HALL HSAME m1 m2
        simp only [Act.put]
        go_wp2
        go_roundw
        case rel => exact ⟨k + 1, hlt, by go_num, HTF⟩
        case measure => simp [intOf]; omega
      · go_wp2_with (go_at_call 15; (with_reducible refine (room_t3 w wr D M room HT.out).mono ?_); rintro e w' ⟨rfl, rfl⟩)
        go_ret
        exact ⟨by simp, HT.out.below⟩
end Go.Proofs.Ytehfejgalemhaaa
