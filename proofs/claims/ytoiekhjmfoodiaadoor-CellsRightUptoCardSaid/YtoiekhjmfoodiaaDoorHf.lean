/- Delete's closure. -/
import Derived.Test.YtoiekhjmfoodiaaDoorHe
namespace Go.Proofs.YtoiekhjmfoodiaaDoor
open Go.RowKit

set_option maxRecDepth 100000 in
set_option maxHeartbeats 4000000 in
theorem delFn_mid (g n c x k S P1 P2 P3 : Nat) (N : Int) (M : List CC) (bk bn : Int) (hn : n = M.length) (hl : n ≤ 1000) (hcap : n ≤ c) (hx : x < n) (_hkn : k ≤ n - x) (hS : S = n - x - k) (hN : N = (k : Int)) (hk0 : 0 < k) (hkl : k < n - x) (w : World) (h : MC w g M) (h1 : w.heap[P1]? = some (.cells #[.int .i64 x] 3 (0, 0))) (h2 : w.heap[P2]? = some (.cells #[.int .i64 N] 3 (0, 0))) (h3 : w.heap[P3]? = some (.cells #[.int .i64 bk, .int .i64 bn] 32 (0, 0))) :
    Calls Tryd.prog 65 #[.slice (some ⟨g, 0, none⟩) n c, .pointer (some ⟨P1, 0, none⟩), .pointer (some ⟨P2, 0, none⟩), .pointer (some ⟨P3, 0, none⟩)] w fun e w' => e = .returned (.tuple #[]) ∧ MC w' g (blankK (movL M x (x + k) S) (x + S) (blankC bk bn) k) ∧ KG g w w' := by
  have HML : Hid ((movL M x (x + k) S).length = n) := Lib.hid (by rw [movL_len M _ _ _ (by omega) (by omega), hn])
  have HV : Hid (movL M x (x + k) S = movL M x (x + k) S) := Lib.hid (by first | rfl | (rw [show k = 0 by omega]; rfl) | (rw [show S = 0 by omega, movL_none, movL_none]))
  have HBL : Hid (∀ W c', MC W g (movL M x (x + k) S) → Calls Tryd.prog 35 #[.slice (some ⟨g, (if S < c - x then x * 8 + S * 8 else x * 8), none⟩) (n - x - S) c', .agg #[.int .i64 bk, .int .i64 bn]] W fun e w' => e = .returned (.tuple #[]) ∧ MC w' g (blankK (movL M x (x + k) S) (x + S) (blankC bk bn) k) ∧ KG g W w') := Lib.hid fun W c' hW => by
    by_cases hs : S < c - x
    · rw [if_pos hs, ← Nat.add_mul, show n - x - S = k by omega]
      exact blank_any g (x + S) k c' _ bk bn (by rw [HML.out]; omega) (by rw [HML.out]; omega) W hW
    · have hk0 : k = 0 := by omega
      rw [if_neg hs, show n - x - S = 0 by omega, hk0]
      have hb := blank_any g x 0 c' (movL M x (x + k) S) bk bn (by rw [HML.out]; omega) (by rw [HML.out]; omega) W hW
      rw [hk0] at hb
      exact hb
  have HCP : Hid (x + S ≤ M.length ∧ (x + k) + S ≤ M.length) := Lib.hid (by omega)
  have HMC := Lib.hid h
  have HP3 : Hid (∀ W, KG g w W → W.cell? ⟨P3, 0, none⟩ = some (.int .i64 bk) ∧ W.cell? ⟨P3, 1, none⟩ = some (.int .i64 bn)) := Lib.hid fun W hW => by
    have hb := (hW.block P3 (Array.getElem?_eq_some_iff.1 h3).1 (h.ne h3 (by decide))).trans h3
    exact ⟨cell_of_row _ _ 0 _ _ _ hb, cell_of_row _ _ 1 _ _ _ hb⟩
  have c1 := cell_of_row _ _ 0 _ _ _ h1
  have c2 := cell_of_row _ _ 0 _ _ _ h2
  have i1 : (x : Int) ≤ n := by omega
  have i2 : (x : Int) < c := by omega
  have i3 : x < c := by omega
  have i4 : x ≤ n := by omega
  obtain ⟨L, hL⟩ : ∃ L, L = n - x := ⟨_, rfl⟩
  obtain ⟨C, hC⟩ : ∃ C, C = c - x := ⟨_, rfl⟩
  have HLC : Hid (n - x = L ∧ c - x = C) := Lib.hid ⟨hL.symm, hC.symm⟩
  rw [← hL, ← hC] at HBL
  have i10 : L ≤ C := by omega
  subst hN
  have i11 : (k : Int) < L := by omega
  have i12 : (0 : Int) < k := by omega
  have i13 : (k : Int) ≤ L := by omega
  have i14 : (k : Int) < C := by omega
  have i15 : k < C := by omega
  have i16 : (k : Int) ≤ C := by omega
  have i17 : k ≤ L := by omega
  clear hkl hk0
  have j1 : (S : Int) ≤ L := by omega
  have j2 : (S : Int) ≤ C := by omega
  have j3 : S ≤ L := by omega
  have HMIN : Hid (S = Nat.min (L - k) L) := Lib.hid (by show _ = min _ _; omega)
  generalize hB : blankK (movL M x (x + k) S) (x + S) (blankC bk bn) k = M2 at *
  obtain ⟨M1, hM1⟩ : ∃ M1, movL M x (x + k) S = M1 := ⟨_, rfl⟩
  have HV2 : Hid (movL M x (x + k) S = M1) := Lib.hid (HV.out.trans hM1)
  rw [hM1] at HBL
  clear HV hM1 HML
  clear hB h h1 h2 h3 hn hcap hx hl hL hC _hkn
  by_cases hs : S < C
  · have j4 : (S : Int) < C := by omega
    rw [if_pos hs] at HBL
    clear hS
    go_enter Tryd.func65, Tryd.ntmps65
    go_upto_region 1 with fail
    rw [HLC.out.1, HLC.out.2]
    go_wp2_with ((with_reducible refine wpList_copy_mo rfl (.tmp 10) (.tmp 17) rfl g M HMC.out (x * 8) (x * 8 + k * 8) x (x + k) L C (L - k) (C - k) S rfl rfl rfl (Nat.add_mul x k 8).symm HMIN.out HCP.out.1 HCP.out.2 ?_); intro w1 hm1 hk1; rw [HV2.out] at hm1; have HM1 := Lib.hid hm1; have HK1 := Lib.hid hk1; obtain ⟨d3, d4⟩ := HP3.out _ hk1; clear hm1 hk1)
    go_still_tail 4, (by kernel_rfl)
    change wpList _ _ _ _ _ w1.drew
    have HM2 : Hid (MC w1.drew g M1) := Lib.hid (HM1.out.past (Below.refl w1.heap.size w1).drew)
    have HK2 : Hid (KG g w w1.drew) := Lib.hid (HK1.out.past')
    clear d3 d4
    generalize w1.drew = wd at *
    go_wp2_with (go_at_call 35; (with_reducible refine (HBL.out _ _ HM2.out).mono ?_); rintro e w2 ⟨rfl, hm, hk⟩; have HM := Lib.hid hm; have HK := Lib.hid (HK2.out.trans hk); clear hm hk)
    go_end0
    exact ⟨rfl, HM.out, HK.out⟩
  · have j4 : ¬ ((S : Int) < C) := by omega
    rw [if_neg hs] at HBL
    clear hS
    go_enter Tryd.func65, Tryd.ntmps65
    go_upto_region 1 with fail
    rw [HLC.out.1, HLC.out.2]
    go_wp2_with ((with_reducible refine wpList_copy_mo rfl (.tmp 10) (.tmp 17) rfl g M HMC.out (x * 8) (x * 8 + k * 8) x (x + k) L C (L - k) (C - k) S rfl rfl rfl (Nat.add_mul x k 8).symm HMIN.out HCP.out.1 HCP.out.2 ?_); intro w1 hm1 hk1; rw [HV2.out] at hm1; have HM1 := Lib.hid hm1; have HK1 := Lib.hid hk1; obtain ⟨d3, d4⟩ := HP3.out _ hk1; clear hm1 hk1)
    go_still_tail 4, (by kernel_rfl)
    change wpList _ _ _ _ _ w1.drew
    have HM2 : Hid (MC w1.drew g M1) := Lib.hid (HM1.out.past (Below.refl w1.heap.size w1).drew)
    have HK2 : Hid (KG g w w1.drew) := Lib.hid (HK1.out.past')
    clear d3 d4
    generalize w1.drew = wd at *
    go_wp2_with (go_at_call 35; (with_reducible refine (HBL.out _ _ HM2.out).mono ?_); rintro e w2 ⟨rfl, hm, hk⟩; have HM := Lib.hid hm; have HK := Lib.hid (HK2.out.trans hk); clear hm hk)
    go_end0
    exact ⟨rfl, HM.out, HK.out⟩
set_option maxRecDepth 100000 in
set_option maxHeartbeats 4000000 in
theorem delFn_neg (g n c x k S P1 P2 P3 : Nat) (N : Int) (M : List CC) (bk bn : Int) (hn : n = M.length) (hl : n ≤ 1000) (hcap : n ≤ c) (hx : x < n) (_hkn : k ≤ n - x) (hS : S = n - x - k) (hN : N < 0) (hk0 : k = 0) (w : World) (h : MC w g M) (h1 : w.heap[P1]? = some (.cells #[.int .i64 x] 3 (0, 0))) (h2 : w.heap[P2]? = some (.cells #[.int .i64 N] 3 (0, 0))) (h3 : w.heap[P3]? = some (.cells #[.int .i64 bk, .int .i64 bn] 32 (0, 0))) :
    Calls Tryd.prog 65 #[.slice (some ⟨g, 0, none⟩) n c, .pointer (some ⟨P1, 0, none⟩), .pointer (some ⟨P2, 0, none⟩), .pointer (some ⟨P3, 0, none⟩)] w fun e w' => e = .returned (.tuple #[]) ∧ MC w' g (blankK (movL M x (x + k) S) (x + S) (blankC bk bn) k) ∧ KG g w w' := by
  have HML : Hid ((movL M x (x + k) S).length = n) := Lib.hid (by rw [movL_len M _ _ _ (by omega) (by omega), hn])
  have HV : Hid (movL M x x S = movL M x (x + k) S) := Lib.hid (by first | rfl | (rw [show k = 0 by omega]; rfl) | (rw [show S = 0 by omega, movL_none, movL_none]))
  have HBL : Hid (∀ W c', MC W g (movL M x (x + k) S) → Calls Tryd.prog 35 #[.slice (some ⟨g, (if S < c - x then x * 8 + S * 8 else x * 8), none⟩) (n - x - S) c', .agg #[.int .i64 bk, .int .i64 bn]] W fun e w' => e = .returned (.tuple #[]) ∧ MC w' g (blankK (movL M x (x + k) S) (x + S) (blankC bk bn) k) ∧ KG g W w') := Lib.hid fun W c' hW => by
    by_cases hs : S < c - x
    · rw [if_pos hs, ← Nat.add_mul, show n - x - S = k by omega]
      exact blank_any g (x + S) k c' _ bk bn (by rw [HML.out]; omega) (by rw [HML.out]; omega) W hW
    · have hk0 : k = 0 := by omega
      rw [if_neg hs, show n - x - S = 0 by omega, hk0]
      have hb := blank_any g x 0 c' (movL M x (x + k) S) bk bn (by rw [HML.out]; omega) (by rw [HML.out]; omega) W hW
      rw [hk0] at hb
      exact hb
  have HCP : Hid (x + S ≤ M.length ∧ x + S ≤ M.length) := Lib.hid (by omega)
  have HMC := Lib.hid h
  have HP3 : Hid (∀ W, KG g w W → W.cell? ⟨P3, 0, none⟩ = some (.int .i64 bk) ∧ W.cell? ⟨P3, 1, none⟩ = some (.int .i64 bn)) := Lib.hid fun W hW => by
    have hb := (hW.block P3 (Array.getElem?_eq_some_iff.1 h3).1 (h.ne h3 (by decide))).trans h3
    exact ⟨cell_of_row _ _ 0 _ _ _ hb, cell_of_row _ _ 1 _ _ _ hb⟩
  have c1 := cell_of_row _ _ 0 _ _ _ h1
  have c2 := cell_of_row _ _ 0 _ _ _ h2
  have i1 : (x : Int) ≤ n := by omega
  have i2 : (x : Int) < c := by omega
  have i3 : x < c := by omega
  have i4 : x ≤ n := by omega
  obtain ⟨L, hL⟩ : ∃ L, L = n - x := ⟨_, rfl⟩
  obtain ⟨C, hC⟩ : ∃ C, C = c - x := ⟨_, rfl⟩
  have HLC : Hid (n - x = L ∧ c - x = C) := Lib.hid ⟨hL.symm, hC.symm⟩
  rw [← hL, ← hC] at HBL
  have i10 : L ≤ C := by omega
  have i12 : (0 : Int) < L := by omega
  have i13 : N < L := by omega
  have i14 : N ≤ L := by omega
  have i15 : N ≤ 0 := by omega
  have j1 : (S : Int) ≤ L := by omega
  have j2 : (S : Int) ≤ C := by omega
  have j3 : S ≤ L := by omega
  have HMIN : Hid (S = Nat.min (L) L) := Lib.hid (by show _ = min _ _; omega)
  generalize hB : blankK (movL M x (x + k) S) (x + S) (blankC bk bn) k = M2 at *
  obtain ⟨M1, hM1⟩ : ∃ M1, movL M x (x + k) S = M1 := ⟨_, rfl⟩
  have HV2 : Hid (movL M x x S = M1) := Lib.hid (HV.out.trans hM1)
  rw [hM1] at HBL
  clear HV hM1 HML
  clear hB h h1 h2 h3 hn hcap hx hl hL hC _hkn
  by_cases hs : S < C
  · have j4 : (S : Int) < C := by omega
    rw [if_pos hs] at HBL
    clear hS
    go_enter Tryd.func65, Tryd.ntmps65
    go_upto_region 1 with fail
    rw [HLC.out.1, HLC.out.2]
    go_wp2_with ((with_reducible refine wpList_copy_mo rfl (.tmp 10) (.tmp 17) rfl g M HMC.out (x * 8) (x * 8) x x L C (L) (C) S rfl rfl rfl rfl HMIN.out HCP.out.1 HCP.out.2 ?_); intro w1 hm1 hk1; rw [HV2.out] at hm1; have HM1 := Lib.hid hm1; have HK1 := Lib.hid hk1; obtain ⟨d3, d4⟩ := HP3.out _ hk1; clear hm1 hk1)
    go_still_tail 4, (by kernel_rfl)
    change wpList _ _ _ _ _ w1.drew
    have HM2 : Hid (MC w1.drew g M1) := Lib.hid (HM1.out.past (Below.refl w1.heap.size w1).drew)
    have HK2 : Hid (KG g w w1.drew) := Lib.hid (HK1.out.past')
    clear d3 d4
    generalize w1.drew = wd at *
    go_wp2_with (go_at_call 35; (with_reducible refine (HBL.out _ _ HM2.out).mono ?_); rintro e w2 ⟨rfl, hm, hk⟩; have HM := Lib.hid hm; have HK := Lib.hid (HK2.out.trans hk); clear hm hk)
    go_end0
    exact ⟨rfl, HM.out, HK.out⟩
  · have j4 : ¬ ((S : Int) < C) := by omega
    rw [if_neg hs] at HBL
    clear hS
    go_enter Tryd.func65, Tryd.ntmps65
    go_upto_region 1 with fail
    rw [HLC.out.1, HLC.out.2]
    go_wp2_with ((with_reducible refine wpList_copy_mo rfl (.tmp 10) (.tmp 17) rfl g M HMC.out (x * 8) (x * 8) x x L C (L) (C) S rfl rfl rfl rfl HMIN.out HCP.out.1 HCP.out.2 ?_); intro w1 hm1 hk1; rw [HV2.out] at hm1; have HM1 := Lib.hid hm1; have HK1 := Lib.hid hk1; obtain ⟨d3, d4⟩ := HP3.out _ hk1; clear hm1 hk1)
    go_still_tail 4, (by kernel_rfl)
    change wpList _ _ _ _ _ w1.drew
    have HM2 : Hid (MC w1.drew g M1) := Lib.hid (HM1.out.past (Below.refl w1.heap.size w1).drew)
    have HK2 : Hid (KG g w w1.drew) := Lib.hid (HK1.out.past')
    clear d3 d4
    generalize w1.drew = wd at *
    go_wp2_with (go_at_call 35; (with_reducible refine (HBL.out _ _ HM2.out).mono ?_); rintro e w2 ⟨rfl, hm, hk⟩; have HM := Lib.hid hm; have HK := Lib.hid (HK2.out.trans hk); clear hm hk)
    go_end0
    exact ⟨rfl, HM.out, HK.out⟩
set_option maxRecDepth 100000 in
set_option maxHeartbeats 4000000 in
theorem delFn_zero (g n c x k S P1 P2 P3 : Nat) (N : Int) (M : List CC) (bk bn : Int) (hn : n = M.length) (hl : n ≤ 1000) (hcap : n ≤ c) (hx : x < n) (_hkn : k ≤ n - x) (hS : S = n - x - k) (hN : N = 0) (hk0 : k = 0) (w : World) (h : MC w g M) (h1 : w.heap[P1]? = some (.cells #[.int .i64 x] 3 (0, 0))) (h2 : w.heap[P2]? = some (.cells #[.int .i64 N] 3 (0, 0))) (h3 : w.heap[P3]? = some (.cells #[.int .i64 bk, .int .i64 bn] 32 (0, 0))) :
    Calls Tryd.prog 65 #[.slice (some ⟨g, 0, none⟩) n c, .pointer (some ⟨P1, 0, none⟩), .pointer (some ⟨P2, 0, none⟩), .pointer (some ⟨P3, 0, none⟩)] w fun e w' => e = .returned (.tuple #[]) ∧ MC w' g (blankK (movL M x (x + k) S) (x + S) (blankC bk bn) k) ∧ KG g w w' := by
  have HML : Hid ((movL M x (x + k) S).length = n) := Lib.hid (by rw [movL_len M _ _ _ (by omega) (by omega), hn])
  have HV : Hid (movL M x x S = movL M x (x + k) S) := Lib.hid (by first | rfl | (rw [show k = 0 by omega]; rfl) | (rw [show S = 0 by omega, movL_none, movL_none]))
  have HBL : Hid (∀ W c', MC W g (movL M x (x + k) S) → Calls Tryd.prog 35 #[.slice (some ⟨g, (if S < c - x then x * 8 + S * 8 else x * 8), none⟩) (n - x - S) c', .agg #[.int .i64 bk, .int .i64 bn]] W fun e w' => e = .returned (.tuple #[]) ∧ MC w' g (blankK (movL M x (x + k) S) (x + S) (blankC bk bn) k) ∧ KG g W w') := Lib.hid fun W c' hW => by
    by_cases hs : S < c - x
    · rw [if_pos hs, ← Nat.add_mul, show n - x - S = k by omega]
      exact blank_any g (x + S) k c' _ bk bn (by rw [HML.out]; omega) (by rw [HML.out]; omega) W hW
    · have hk0 : k = 0 := by omega
      rw [if_neg hs, show n - x - S = 0 by omega, hk0]
      have hb := blank_any g x 0 c' (movL M x (x + k) S) bk bn (by rw [HML.out]; omega) (by rw [HML.out]; omega) W hW
      rw [hk0] at hb
      exact hb
  have HCP : Hid (x + S ≤ M.length ∧ x + S ≤ M.length) := Lib.hid (by omega)
  have HMC := Lib.hid h
  have HP3 : Hid (∀ W, KG g w W → W.cell? ⟨P3, 0, none⟩ = some (.int .i64 bk) ∧ W.cell? ⟨P3, 1, none⟩ = some (.int .i64 bn)) := Lib.hid fun W hW => by
    have hb := (hW.block P3 (Array.getElem?_eq_some_iff.1 h3).1 (h.ne h3 (by decide))).trans h3
    exact ⟨cell_of_row _ _ 0 _ _ _ hb, cell_of_row _ _ 1 _ _ _ hb⟩
  have c1 := cell_of_row _ _ 0 _ _ _ h1
  have c2 := cell_of_row _ _ 0 _ _ _ h2
  have i1 : (x : Int) ≤ n := by omega
  have i2 : (x : Int) < c := by omega
  have i3 : x < c := by omega
  have i4 : x ≤ n := by omega
  obtain ⟨L, hL⟩ : ∃ L, L = n - x := ⟨_, rfl⟩
  obtain ⟨C, hC⟩ : ∃ C, C = c - x := ⟨_, rfl⟩
  have HLC : Hid (n - x = L ∧ c - x = C) := Lib.hid ⟨hL.symm, hC.symm⟩
  rw [← hL, ← hC] at HBL
  have i10 : L ≤ C := by omega
  have i12 : (0 : Int) < L := by omega
  have i13 : (0 : Int) ≤ L := by omega
  subst hN
  have j1 : (S : Int) ≤ L := by omega
  have j2 : (S : Int) ≤ C := by omega
  have j3 : S ≤ L := by omega
  have HMIN : Hid (S = Nat.min (L) L) := Lib.hid (by show _ = min _ _; omega)
  generalize hB : blankK (movL M x (x + k) S) (x + S) (blankC bk bn) k = M2 at *
  obtain ⟨M1, hM1⟩ : ∃ M1, movL M x (x + k) S = M1 := ⟨_, rfl⟩
  have HV2 : Hid (movL M x x S = M1) := Lib.hid (HV.out.trans hM1)
  rw [hM1] at HBL
  clear HV hM1 HML
  clear hB h h1 h2 h3 hn hcap hx hl hL hC _hkn
  by_cases hs : S < C
  · have j4 : (S : Int) < C := by omega
    rw [if_pos hs] at HBL
    clear hS
    go_enter Tryd.func65, Tryd.ntmps65
    go_upto_region 1 with fail
    rw [HLC.out.1, HLC.out.2]
    go_wp2_with ((with_reducible refine wpList_copy_mo rfl (.tmp 10) (.tmp 17) rfl g M HMC.out (x * 8) (x * 8) x x L C (L) (C) S rfl rfl rfl rfl HMIN.out HCP.out.1 HCP.out.2 ?_); intro w1 hm1 hk1; rw [HV2.out] at hm1; have HM1 := Lib.hid hm1; have HK1 := Lib.hid hk1; obtain ⟨d3, d4⟩ := HP3.out _ hk1; clear hm1 hk1)
    go_still_tail 4, (by kernel_rfl)
    change wpList _ _ _ _ _ w1.drew
    have HM2 : Hid (MC w1.drew g M1) := Lib.hid (HM1.out.past (Below.refl w1.heap.size w1).drew)
    have HK2 : Hid (KG g w w1.drew) := Lib.hid (HK1.out.past')
    clear d3 d4
    generalize w1.drew = wd at *
    go_wp2_with (go_at_call 35; (with_reducible refine (HBL.out _ _ HM2.out).mono ?_); rintro e w2 ⟨rfl, hm, hk⟩; have HM := Lib.hid hm; have HK := Lib.hid (HK2.out.trans hk); clear hm hk)
    go_end0
    exact ⟨rfl, HM.out, HK.out⟩
  · have j4 : ¬ ((S : Int) < C) := by omega
    rw [if_neg hs] at HBL
    clear hS
    go_enter Tryd.func65, Tryd.ntmps65
    go_upto_region 1 with fail
    rw [HLC.out.1, HLC.out.2]
    go_wp2_with ((with_reducible refine wpList_copy_mo rfl (.tmp 10) (.tmp 17) rfl g M HMC.out (x * 8) (x * 8) x x L C (L) (C) S rfl rfl rfl rfl HMIN.out HCP.out.1 HCP.out.2 ?_); intro w1 hm1 hk1; rw [HV2.out] at hm1; have HM1 := Lib.hid hm1; have HK1 := Lib.hid hk1; obtain ⟨d3, d4⟩ := HP3.out _ hk1; clear hm1 hk1)
    go_still_tail 4, (by kernel_rfl)
    change wpList _ _ _ _ _ w1.drew
    have HM2 : Hid (MC w1.drew g M1) := Lib.hid (HM1.out.past (Below.refl w1.heap.size w1).drew)
    have HK2 : Hid (KG g w w1.drew) := Lib.hid (HK1.out.past')
    clear d3 d4
    generalize w1.drew = wd at *
    go_wp2_with (go_at_call 35; (with_reducible refine (HBL.out _ _ HM2.out).mono ?_); rintro e w2 ⟨rfl, hm, hk⟩; have HM := Lib.hid hm; have HK := Lib.hid (HK2.out.trans hk); clear hm hk)
    go_end0
    exact ⟨rfl, HM.out, HK.out⟩
set_option maxRecDepth 100000 in
set_option maxHeartbeats 4000000 in
theorem delFn_all_lt (g n c x k S P1 P2 P3 : Nat) (N : Int) (M : List CC) (bk bn : Int) (hn : n = M.length) (hl : n ≤ 1000) (hcap : n ≤ c) (hx : x < n) (_hkn : k ≤ n - x) (hS : S = n - x - k) (hN : N = ((n - x : Nat) : Int)) (hkl : k = n - x) (hLC : n - x < c - x) (w : World) (h : MC w g M) (h1 : w.heap[P1]? = some (.cells #[.int .i64 x] 3 (0, 0))) (h2 : w.heap[P2]? = some (.cells #[.int .i64 N] 3 (0, 0))) (h3 : w.heap[P3]? = some (.cells #[.int .i64 bk, .int .i64 bn] 32 (0, 0))) :
    Calls Tryd.prog 65 #[.slice (some ⟨g, 0, none⟩) n c, .pointer (some ⟨P1, 0, none⟩), .pointer (some ⟨P2, 0, none⟩), .pointer (some ⟨P3, 0, none⟩)] w fun e w' => e = .returned (.tuple #[]) ∧ MC w' g (blankK (movL M x (x + k) S) (x + S) (blankC bk bn) k) ∧ KG g w w' := by
  have HML : Hid ((movL M x (x + k) S).length = n) := Lib.hid (by rw [movL_len M _ _ _ (by omega) (by omega), hn])
  have HV : Hid (movL M x (x + k) S = movL M x (x + k) S) := Lib.hid (by first | rfl | (rw [show k = 0 by omega]; rfl) | (rw [show S = 0 by omega, movL_none, movL_none]))
  have HBL : Hid (∀ W c', MC W g (movL M x (x + k) S) → Calls Tryd.prog 35 #[.slice (some ⟨g, (if S < c - x then x * 8 + S * 8 else x * 8), none⟩) (n - x - S) c', .agg #[.int .i64 bk, .int .i64 bn]] W fun e w' => e = .returned (.tuple #[]) ∧ MC w' g (blankK (movL M x (x + k) S) (x + S) (blankC bk bn) k) ∧ KG g W w') := Lib.hid fun W c' hW => by
    by_cases hs : S < c - x
    · rw [if_pos hs, ← Nat.add_mul, show n - x - S = k by omega]
      exact blank_any g (x + S) k c' _ bk bn (by rw [HML.out]; omega) (by rw [HML.out]; omega) W hW
    · have hk0 : k = 0 := by omega
      rw [if_neg hs, show n - x - S = 0 by omega, hk0]
      have hb := blank_any g x 0 c' (movL M x (x + k) S) bk bn (by rw [HML.out]; omega) (by rw [HML.out]; omega) W hW
      rw [hk0] at hb
      exact hb
  have HCP : Hid (x + S ≤ M.length ∧ (x + k) + S ≤ M.length) := Lib.hid (by omega)
  have HMC := Lib.hid h
  have HP3 : Hid (∀ W, KG g w W → W.cell? ⟨P3, 0, none⟩ = some (.int .i64 bk) ∧ W.cell? ⟨P3, 1, none⟩ = some (.int .i64 bn)) := Lib.hid fun W hW => by
    have hb := (hW.block P3 (Array.getElem?_eq_some_iff.1 h3).1 (h.ne h3 (by decide))).trans h3
    exact ⟨cell_of_row _ _ 0 _ _ _ hb, cell_of_row _ _ 1 _ _ _ hb⟩
  have c1 := cell_of_row _ _ 0 _ _ _ h1
  have c2 := cell_of_row _ _ 0 _ _ _ h2
  have i1 : (x : Int) ≤ n := by omega
  have i2 : (x : Int) < c := by omega
  have i3 : x < c := by omega
  have i4 : x ≤ n := by omega
  obtain ⟨L, hL⟩ : ∃ L, L = n - x := ⟨_, rfl⟩
  obtain ⟨C, hC⟩ : ∃ C, C = c - x := ⟨_, rfl⟩
  have HLC : Hid (n - x = L ∧ c - x = C) := Lib.hid ⟨hL.symm, hC.symm⟩
  rw [← hL, ← hC] at HBL
  have i10 : L ≤ C := by omega
  have i12 : (0 : Int) < L := by omega
  have i16 : (L : Int) ≤ C := by omega
  have i17 : (0 : Int) ≤ L := by omega
  have hN' : N = (L : Int) := by omega
  subst hN'
  have i18 : (L : Int) < C := by omega
  have i19 : L < C := by omega
  have HOB : Hid (x * 8 + L * 8 = (x + k) * 8) := Lib.hid (by omega)
  have j1 : (S : Int) ≤ L := by omega
  have j2 : (S : Int) ≤ C := by omega
  have j3 : S ≤ L := by omega
  have HMIN : Hid (S = Nat.min (0) L) := Lib.hid (by show _ = min _ _; omega)
  have hs : S < C := by omega
  generalize hB : blankK (movL M x (x + k) S) (x + S) (blankC bk bn) k = M2 at *
  obtain ⟨M1, hM1⟩ : ∃ M1, movL M x (x + k) S = M1 := ⟨_, rfl⟩
  have HV2 : Hid (movL M x (x + k) S = M1) := Lib.hid (HV.out.trans hM1)
  rw [hM1] at HBL
  clear HV hM1 HML
  clear hB h h1 h2 h3 hn hcap hx hl hL hC _hkn hkl hLC hN
  have j4 : (S : Int) < C := by omega
  rw [if_pos hs] at HBL
  clear hS
  go_enter Tryd.func65, Tryd.ntmps65
  go_upto_region 1 with fail
  rw [HLC.out.1, HLC.out.2]
  go_wp2_with ((with_reducible refine wpList_copy_mo rfl (.tmp 10) (.tmp 17) rfl g M HMC.out (x * 8) (x * 8 + L * 8) x (x + k) L C (0) (C - L) S rfl rfl rfl HOB.out HMIN.out HCP.out.1 HCP.out.2 ?_); intro w1 hm1 hk1; rw [HV2.out] at hm1; have HM1 := Lib.hid hm1; have HK1 := Lib.hid hk1; obtain ⟨d3, d4⟩ := HP3.out _ hk1; clear hm1 hk1)
  go_still_tail 4, (by kernel_rfl)
  change wpList _ _ _ _ _ w1.drew
  have HM2 : Hid (MC w1.drew g M1) := Lib.hid (HM1.out.past (Below.refl w1.heap.size w1).drew)
  have HK2 : Hid (KG g w w1.drew) := Lib.hid (HK1.out.past')
  clear d3 d4
  generalize w1.drew = wd at *
  go_wp2_with (go_at_call 35; (with_reducible refine (HBL.out _ _ HM2.out).mono ?_); rintro e w2 ⟨rfl, hm, hk⟩; have HM := Lib.hid hm; have HK := Lib.hid (HK2.out.trans hk); clear hm hk)
  go_end0
  exact ⟨rfl, HM.out, HK.out⟩
set_option maxRecDepth 100000 in
set_option maxHeartbeats 4000000 in
theorem delFn_all_eq (g n c x k S P1 P2 P3 : Nat) (N : Int) (M : List CC) (bk bn : Int) (hn : n = M.length) (hl : n ≤ 1000) (hcap : n ≤ c) (hx : x < n) (_hkn : k ≤ n - x) (hS : S = n - x - k) (hN : N = ((n - x : Nat) : Int)) (hkl : k = n - x) (hLC : n - x = c - x) (w : World) (h : MC w g M) (h1 : w.heap[P1]? = some (.cells #[.int .i64 x] 3 (0, 0))) (h2 : w.heap[P2]? = some (.cells #[.int .i64 N] 3 (0, 0))) (h3 : w.heap[P3]? = some (.cells #[.int .i64 bk, .int .i64 bn] 32 (0, 0))) :
    Calls Tryd.prog 65 #[.slice (some ⟨g, 0, none⟩) n c, .pointer (some ⟨P1, 0, none⟩), .pointer (some ⟨P2, 0, none⟩), .pointer (some ⟨P3, 0, none⟩)] w fun e w' => e = .returned (.tuple #[]) ∧ MC w' g (blankK (movL M x (x + k) S) (x + S) (blankC bk bn) k) ∧ KG g w w' := by
  have HML : Hid ((movL M x (x + k) S).length = n) := Lib.hid (by rw [movL_len M _ _ _ (by omega) (by omega), hn])
  have HV : Hid (movL M x x S = movL M x (x + k) S) := Lib.hid (by first | rfl | (rw [show k = 0 by omega]; rfl) | (rw [show S = 0 by omega, movL_none, movL_none]))
  have HBL : Hid (∀ W c', MC W g (movL M x (x + k) S) → Calls Tryd.prog 35 #[.slice (some ⟨g, (if S < c - x then x * 8 + S * 8 else x * 8), none⟩) (n - x - S) c', .agg #[.int .i64 bk, .int .i64 bn]] W fun e w' => e = .returned (.tuple #[]) ∧ MC w' g (blankK (movL M x (x + k) S) (x + S) (blankC bk bn) k) ∧ KG g W w') := Lib.hid fun W c' hW => by
    by_cases hs : S < c - x
    · rw [if_pos hs, ← Nat.add_mul, show n - x - S = k by omega]
      exact blank_any g (x + S) k c' _ bk bn (by rw [HML.out]; omega) (by rw [HML.out]; omega) W hW
    · have hk0 : k = 0 := by omega
      rw [if_neg hs, show n - x - S = 0 by omega, hk0]
      have hb := blank_any g x 0 c' (movL M x (x + k) S) bk bn (by rw [HML.out]; omega) (by rw [HML.out]; omega) W hW
      rw [hk0] at hb
      exact hb
  have HCP : Hid (x + S ≤ M.length ∧ x + S ≤ M.length) := Lib.hid (by omega)
  have HMC := Lib.hid h
  have HP3 : Hid (∀ W, KG g w W → W.cell? ⟨P3, 0, none⟩ = some (.int .i64 bk) ∧ W.cell? ⟨P3, 1, none⟩ = some (.int .i64 bn)) := Lib.hid fun W hW => by
    have hb := (hW.block P3 (Array.getElem?_eq_some_iff.1 h3).1 (h.ne h3 (by decide))).trans h3
    exact ⟨cell_of_row _ _ 0 _ _ _ hb, cell_of_row _ _ 1 _ _ _ hb⟩
  have c1 := cell_of_row _ _ 0 _ _ _ h1
  have c2 := cell_of_row _ _ 0 _ _ _ h2
  have i1 : (x : Int) ≤ n := by omega
  have i2 : (x : Int) < c := by omega
  have i3 : x < c := by omega
  have i4 : x ≤ n := by omega
  obtain ⟨L, hL⟩ : ∃ L, L = n - x := ⟨_, rfl⟩
  obtain ⟨C, hC⟩ : ∃ C, C = c - x := ⟨_, rfl⟩
  have HLC : Hid (n - x = L ∧ c - x = C) := Lib.hid ⟨hL.symm, hC.symm⟩
  rw [← hL, ← hC] at HBL
  have i10 : L ≤ C := by omega
  have i12 : (0 : Int) < L := by omega
  have i16 : (L : Int) ≤ C := by omega
  have i17 : (0 : Int) ≤ L := by omega
  have hN' : N = (L : Int) := by omega
  subst hN'
  have i18 : ¬ ((L : Int) < C) := by omega
  have i19 : ¬ (L < C) := by omega
  have j1 : (S : Int) ≤ L := by omega
  have j2 : (S : Int) ≤ C := by omega
  have j3 : S ≤ L := by omega
  have HMIN : Hid (S = Nat.min (0) L) := Lib.hid (by show _ = min _ _; omega)
  have hs : S < C := by omega
  generalize hB : blankK (movL M x (x + k) S) (x + S) (blankC bk bn) k = M2 at *
  obtain ⟨M1, hM1⟩ : ∃ M1, movL M x (x + k) S = M1 := ⟨_, rfl⟩
  have HV2 : Hid (movL M x x S = M1) := Lib.hid (HV.out.trans hM1)
  rw [hM1] at HBL
  clear HV hM1 HML
  clear hB h h1 h2 h3 hn hcap hx hl hL hC _hkn hkl hLC hN
  have j4 : (S : Int) < C := by omega
  rw [if_pos hs] at HBL
  clear hS
  go_enter Tryd.func65, Tryd.ntmps65
  go_upto_region 1 with fail
  rw [HLC.out.1, HLC.out.2]
  go_wp2_with ((with_reducible refine wpList_copy_mo rfl (.tmp 10) (.tmp 17) rfl g M HMC.out (x * 8) (x * 8) x x L C (0) (C - L) S rfl rfl rfl rfl HMIN.out HCP.out.1 HCP.out.2 ?_); intro w1 hm1 hk1; rw [HV2.out] at hm1; have HM1 := Lib.hid hm1; have HK1 := Lib.hid hk1; obtain ⟨d3, d4⟩ := HP3.out _ hk1; clear hm1 hk1)
  go_still_tail 4, (by kernel_rfl)
  change wpList _ _ _ _ _ w1.drew
  have HM2 : Hid (MC w1.drew g M1) := Lib.hid (HM1.out.past (Below.refl w1.heap.size w1).drew)
  have HK2 : Hid (KG g w w1.drew) := Lib.hid (HK1.out.past')
  clear d3 d4
  generalize w1.drew = wd at *
  go_wp2_with (go_at_call 35; (with_reducible refine (HBL.out _ _ HM2.out).mono ?_); rintro e w2 ⟨rfl, hm, hk⟩; have HM := Lib.hid hm; have HK := Lib.hid (HK2.out.trans hk); clear hm hk)
  go_end0
  exact ⟨rfl, HM.out, HK.out⟩
set_option maxRecDepth 100000 in
set_option maxHeartbeats 4000000 in
theorem delFn_more_lt (g n c x k S P1 P2 P3 : Nat) (N : Int) (M : List CC) (bk bn : Int) (hn : n = M.length) (hl : n ≤ 1000) (hcap : n ≤ c) (hx : x < n) (_hkn : k ≤ n - x) (hS : S = n - x - k) (hN : ((n - x : Nat) : Int) < N) (hkl : k = n - x) (hLC : n - x < c - x) (w : World) (h : MC w g M) (h1 : w.heap[P1]? = some (.cells #[.int .i64 x] 3 (0, 0))) (h2 : w.heap[P2]? = some (.cells #[.int .i64 N] 3 (0, 0))) (h3 : w.heap[P3]? = some (.cells #[.int .i64 bk, .int .i64 bn] 32 (0, 0))) :
    Calls Tryd.prog 65 #[.slice (some ⟨g, 0, none⟩) n c, .pointer (some ⟨P1, 0, none⟩), .pointer (some ⟨P2, 0, none⟩), .pointer (some ⟨P3, 0, none⟩)] w fun e w' => e = .returned (.tuple #[]) ∧ MC w' g (blankK (movL M x (x + k) S) (x + S) (blankC bk bn) k) ∧ KG g w w' := by
  have HML : Hid ((movL M x (x + k) S).length = n) := Lib.hid (by rw [movL_len M _ _ _ (by omega) (by omega), hn])
  have HV : Hid (movL M x (x + k) S = movL M x (x + k) S) := Lib.hid (by first | rfl | (rw [show k = 0 by omega]; rfl) | (rw [show S = 0 by omega, movL_none, movL_none]))
  have HBL : Hid (∀ W c', MC W g (movL M x (x + k) S) → Calls Tryd.prog 35 #[.slice (some ⟨g, (if S < c - x then x * 8 + S * 8 else x * 8), none⟩) (n - x - S) c', .agg #[.int .i64 bk, .int .i64 bn]] W fun e w' => e = .returned (.tuple #[]) ∧ MC w' g (blankK (movL M x (x + k) S) (x + S) (blankC bk bn) k) ∧ KG g W w') := Lib.hid fun W c' hW => by
    by_cases hs : S < c - x
    · rw [if_pos hs, ← Nat.add_mul, show n - x - S = k by omega]
      exact blank_any g (x + S) k c' _ bk bn (by rw [HML.out]; omega) (by rw [HML.out]; omega) W hW
    · have hk0 : k = 0 := by omega
      rw [if_neg hs, show n - x - S = 0 by omega, hk0]
      have hb := blank_any g x 0 c' (movL M x (x + k) S) bk bn (by rw [HML.out]; omega) (by rw [HML.out]; omega) W hW
      rw [hk0] at hb
      exact hb
  have HCP : Hid (x + S ≤ M.length ∧ (x + k) + S ≤ M.length) := Lib.hid (by omega)
  have HMC := Lib.hid h
  have HP3 : Hid (∀ W, KG g w W → W.cell? ⟨P3, 0, none⟩ = some (.int .i64 bk) ∧ W.cell? ⟨P3, 1, none⟩ = some (.int .i64 bn)) := Lib.hid fun W hW => by
    have hb := (hW.block P3 (Array.getElem?_eq_some_iff.1 h3).1 (h.ne h3 (by decide))).trans h3
    exact ⟨cell_of_row _ _ 0 _ _ _ hb, cell_of_row _ _ 1 _ _ _ hb⟩
  have c1 := cell_of_row _ _ 0 _ _ _ h1
  have c2 := cell_of_row _ _ 0 _ _ _ h2
  have i1 : (x : Int) ≤ n := by omega
  have i2 : (x : Int) < c := by omega
  have i3 : x < c := by omega
  have i4 : x ≤ n := by omega
  obtain ⟨L, hL⟩ : ∃ L, L = n - x := ⟨_, rfl⟩
  obtain ⟨C, hC⟩ : ∃ C, C = c - x := ⟨_, rfl⟩
  have HLC : Hid (n - x = L ∧ c - x = C) := Lib.hid ⟨hL.symm, hC.symm⟩
  rw [← hL, ← hC] at HBL
  have i10 : L ≤ C := by omega
  have i12 : (0 : Int) < L := by omega
  have i16 : (L : Int) ≤ C := by omega
  have i17 : (0 : Int) ≤ L := by omega
  have i13 : (L : Int) < N := by omega
  have i14 : (L : Int) ≤ N := by omega
  clear hN
  have i18 : (L : Int) < C := by omega
  have i19 : L < C := by omega
  have HOB : Hid (x * 8 + L * 8 = (x + k) * 8) := Lib.hid (by omega)
  have j1 : (S : Int) ≤ L := by omega
  have j2 : (S : Int) ≤ C := by omega
  have j3 : S ≤ L := by omega
  have HMIN : Hid (S = Nat.min (0) L) := Lib.hid (by show _ = min _ _; omega)
  have hs : S < C := by omega
  generalize hB : blankK (movL M x (x + k) S) (x + S) (blankC bk bn) k = M2 at *
  obtain ⟨M1, hM1⟩ : ∃ M1, movL M x (x + k) S = M1 := ⟨_, rfl⟩
  have HV2 : Hid (movL M x (x + k) S = M1) := Lib.hid (HV.out.trans hM1)
  rw [hM1] at HBL
  clear HV hM1 HML
  clear hB h h1 h2 h3 hn hcap hx hl hL hC _hkn hkl hLC
  have j4 : (S : Int) < C := by omega
  rw [if_pos hs] at HBL
  clear hS
  go_enter Tryd.func65, Tryd.ntmps65
  go_upto_region 1 with fail
  rw [HLC.out.1, HLC.out.2]
  go_wp2_with ((with_reducible refine wpList_copy_mo rfl (.tmp 10) (.tmp 17) rfl g M HMC.out (x * 8) (x * 8 + L * 8) x (x + k) L C (0) (C - L) S rfl rfl rfl HOB.out HMIN.out HCP.out.1 HCP.out.2 ?_); intro w1 hm1 hk1; rw [HV2.out] at hm1; have HM1 := Lib.hid hm1; have HK1 := Lib.hid hk1; obtain ⟨d3, d4⟩ := HP3.out _ hk1; clear hm1 hk1)
  go_still_tail 4, (by kernel_rfl)
  change wpList _ _ _ _ _ w1.drew
  have HM2 : Hid (MC w1.drew g M1) := Lib.hid (HM1.out.past (Below.refl w1.heap.size w1).drew)
  have HK2 : Hid (KG g w w1.drew) := Lib.hid (HK1.out.past')
  clear d3 d4
  generalize w1.drew = wd at *
  go_wp2_with (go_at_call 35; (with_reducible refine (HBL.out _ _ HM2.out).mono ?_); rintro e w2 ⟨rfl, hm, hk⟩; have HM := Lib.hid hm; have HK := Lib.hid (HK2.out.trans hk); clear hm hk)
  go_end0
  exact ⟨rfl, HM.out, HK.out⟩
set_option maxRecDepth 100000 in
set_option maxHeartbeats 4000000 in
theorem delFn_more_eq (g n c x k S P1 P2 P3 : Nat) (N : Int) (M : List CC) (bk bn : Int) (hn : n = M.length) (hl : n ≤ 1000) (hcap : n ≤ c) (hx : x < n) (_hkn : k ≤ n - x) (hS : S = n - x - k) (hN : ((n - x : Nat) : Int) < N) (hkl : k = n - x) (hLC : n - x = c - x) (w : World) (h : MC w g M) (h1 : w.heap[P1]? = some (.cells #[.int .i64 x] 3 (0, 0))) (h2 : w.heap[P2]? = some (.cells #[.int .i64 N] 3 (0, 0))) (h3 : w.heap[P3]? = some (.cells #[.int .i64 bk, .int .i64 bn] 32 (0, 0))) :
    Calls Tryd.prog 65 #[.slice (some ⟨g, 0, none⟩) n c, .pointer (some ⟨P1, 0, none⟩), .pointer (some ⟨P2, 0, none⟩), .pointer (some ⟨P3, 0, none⟩)] w fun e w' => e = .returned (.tuple #[]) ∧ MC w' g (blankK (movL M x (x + k) S) (x + S) (blankC bk bn) k) ∧ KG g w w' := by
  have HML : Hid ((movL M x (x + k) S).length = n) := Lib.hid (by rw [movL_len M _ _ _ (by omega) (by omega), hn])
  have HV : Hid (movL M x x S = movL M x (x + k) S) := Lib.hid (by first | rfl | (rw [show k = 0 by omega]; rfl) | (rw [show S = 0 by omega, movL_none, movL_none]))
  have HBL : Hid (∀ W c', MC W g (movL M x (x + k) S) → Calls Tryd.prog 35 #[.slice (some ⟨g, (if S < c - x then x * 8 + S * 8 else x * 8), none⟩) (n - x - S) c', .agg #[.int .i64 bk, .int .i64 bn]] W fun e w' => e = .returned (.tuple #[]) ∧ MC w' g (blankK (movL M x (x + k) S) (x + S) (blankC bk bn) k) ∧ KG g W w') := Lib.hid fun W c' hW => by
    by_cases hs : S < c - x
    · rw [if_pos hs, ← Nat.add_mul, show n - x - S = k by omega]
      exact blank_any g (x + S) k c' _ bk bn (by rw [HML.out]; omega) (by rw [HML.out]; omega) W hW
    · have hk0 : k = 0 := by omega
      rw [if_neg hs, show n - x - S = 0 by omega, hk0]
      have hb := blank_any g x 0 c' (movL M x (x + k) S) bk bn (by rw [HML.out]; omega) (by rw [HML.out]; omega) W hW
      rw [hk0] at hb
      exact hb
  have HCP : Hid (x + S ≤ M.length ∧ x + S ≤ M.length) := Lib.hid (by omega)
  have HMC := Lib.hid h
  have HP3 : Hid (∀ W, KG g w W → W.cell? ⟨P3, 0, none⟩ = some (.int .i64 bk) ∧ W.cell? ⟨P3, 1, none⟩ = some (.int .i64 bn)) := Lib.hid fun W hW => by
    have hb := (hW.block P3 (Array.getElem?_eq_some_iff.1 h3).1 (h.ne h3 (by decide))).trans h3
    exact ⟨cell_of_row _ _ 0 _ _ _ hb, cell_of_row _ _ 1 _ _ _ hb⟩
  have c1 := cell_of_row _ _ 0 _ _ _ h1
  have c2 := cell_of_row _ _ 0 _ _ _ h2
  have i1 : (x : Int) ≤ n := by omega
  have i2 : (x : Int) < c := by omega
  have i3 : x < c := by omega
  have i4 : x ≤ n := by omega
  obtain ⟨L, hL⟩ : ∃ L, L = n - x := ⟨_, rfl⟩
  obtain ⟨C, hC⟩ : ∃ C, C = c - x := ⟨_, rfl⟩
  have HLC : Hid (n - x = L ∧ c - x = C) := Lib.hid ⟨hL.symm, hC.symm⟩
  rw [← hL, ← hC] at HBL
  have i10 : L ≤ C := by omega
  have i12 : (0 : Int) < L := by omega
  have i16 : (L : Int) ≤ C := by omega
  have i17 : (0 : Int) ≤ L := by omega
  have i13 : (L : Int) < N := by omega
  have i14 : (L : Int) ≤ N := by omega
  clear hN
  have i18 : ¬ ((L : Int) < C) := by omega
  have i19 : ¬ (L < C) := by omega
  have j1 : (S : Int) ≤ L := by omega
  have j2 : (S : Int) ≤ C := by omega
  have j3 : S ≤ L := by omega
  have HMIN : Hid (S = Nat.min (0) L) := Lib.hid (by show _ = min _ _; omega)
  have hs : S < C := by omega
  generalize hB : blankK (movL M x (x + k) S) (x + S) (blankC bk bn) k = M2 at *
  obtain ⟨M1, hM1⟩ : ∃ M1, movL M x (x + k) S = M1 := ⟨_, rfl⟩
  have HV2 : Hid (movL M x x S = M1) := Lib.hid (HV.out.trans hM1)
  rw [hM1] at HBL
  clear HV hM1 HML
  clear hB h h1 h2 h3 hn hcap hx hl hL hC _hkn hkl hLC
  have j4 : (S : Int) < C := by omega
  rw [if_pos hs] at HBL
  clear hS
  go_enter Tryd.func65, Tryd.ntmps65
  go_upto_region 1 with fail
  rw [HLC.out.1, HLC.out.2]
  go_wp2_with ((with_reducible refine wpList_copy_mo rfl (.tmp 10) (.tmp 17) rfl g M HMC.out (x * 8) (x * 8) x x L C (0) (C - L) S rfl rfl rfl rfl HMIN.out HCP.out.1 HCP.out.2 ?_); intro w1 hm1 hk1; rw [HV2.out] at hm1; have HM1 := Lib.hid hm1; have HK1 := Lib.hid hk1; obtain ⟨d3, d4⟩ := HP3.out _ hk1; clear hm1 hk1)
  go_still_tail 4, (by kernel_rfl)
  change wpList _ _ _ _ _ w1.drew
  have HM2 : Hid (MC w1.drew g M1) := Lib.hid (HM1.out.past (Below.refl w1.heap.size w1).drew)
  have HK2 : Hid (KG g w w1.drew) := Lib.hid (HK1.out.past')
  clear d3 d4
  generalize w1.drew = wd at *
  go_wp2_with (go_at_call 35; (with_reducible refine (HBL.out _ _ HM2.out).mono ?_); rintro e w2 ⟨rfl, hm, hk⟩; have HM := Lib.hid hm; have HK := Lib.hid (HK2.out.trans hk); clear hm hk)
  go_end0
  exact ⟨rfl, HM.out, HK.out⟩
theorem delFn_any (g n c x k P1 P2 P3 : Nat) (N : Int) (M : List CC) (bk bn : Int) (hn : n = M.length) (hl : n ≤ 1000) (hcap : n ≤ c) (hx : x < n) (hkn : k ≤ n - x) (hk : max (min N ((n - x : Nat) : Int)) 0 = (k : Int)) (w : World) (h : MC w g M) (h1 : w.heap[P1]? = some (.cells #[.int .i64 x] 3 (0, 0))) (h2 : w.heap[P2]? = some (.cells #[.int .i64 N] 3 (0, 0))) (h3 : w.heap[P3]? = some (.cells #[.int .i64 bk, .int .i64 bn] 32 (0, 0))) :
    Calls Tryd.prog 65 #[.slice (some ⟨g, 0, none⟩) n c, .pointer (some ⟨P1, 0, none⟩), .pointer (some ⟨P2, 0, none⟩), .pointer (some ⟨P3, 0, none⟩)] w fun e w' => e = .returned (.tuple #[]) ∧ MC w' g (blankK (movL M x (x + k) (n - x - k)) (x + (n - x - k)) (blankC bk bn) k) ∧ KG g w w' := by
  rcases Int.lt_trichotomy N 0 with hN | hN | hN
  · exact delFn_neg g n c x k _ P1 P2 P3 N M bk bn hn hl hcap hx hkn rfl hN (by omega) w h h1 h2 h3
  · exact delFn_zero g n c x k _ P1 P2 P3 N M bk bn hn hl hcap hx hkn rfl hN (by omega) w h h1 h2 h3
  · rcases Int.lt_trichotomy N ((n - x : Nat) : Int) with hM | hM | hM
    · exact delFn_mid g n c x k _ P1 P2 P3 N M bk bn hn hl hcap hx hkn rfl (by omega) (by omega) (by omega) w h h1 h2 h3
    · by_cases hc : n - x < c - x
      · exact delFn_all_lt g n c x k _ P1 P2 P3 N M bk bn hn hl hcap hx hkn rfl hM (by omega) hc w h h1 h2 h3
      · exact delFn_all_eq g n c x k _ P1 P2 P3 N M bk bn hn hl hcap hx hkn rfl hM (by omega) (by omega) w h h1 h2 h3
    · by_cases hc : n - x < c - x
      · exact delFn_more_lt g n c x k _ P1 P2 P3 N M bk bn hn hl hcap hx hkn rfl hM (by omega) hc w h h1 h2 h3
      · exact delFn_more_eq g n c x k _ P1 P2 P3 N M bk bn hn hl hcap hx hkn rfl hM (by omega) (by omega) w h h1 h2 h3
end Go.Proofs.YtoiekhjmfoodiaaDoor

namespace Go.Proofs.YtoiekhjmfoodiaaDoor
open Go.RowKit

/-- What Delete makes of a row. -/
def delRow (l : List CC) (z N : Int) (b : CC) : List CC :=
  if 0 ≤ z ∧ z < (l.length : Int) then mendL (blankK (movL (mendL l) z.toNat (z.toNat + (max (min N ((l.length - z.toNat : Nat) : Int)) 0).toNat) (l.length - z.toNat - (max (min N ((l.length - z.toNat : Nat) : Int)) 0).toNat)) (z.toNat + (l.length - z.toNat - (max (min N ((l.length - z.toNat : Nat) : Int)) 0).toNat)) b (max (min N ((l.length - z.toNat : Nat) : Int)) 0).toNat) else mendL l
set_option maxRecDepth 100000 in
set_option maxHeartbeats 4000000 in
theorem delete_any (A : Option Addr) (l : List CC) (n c : Nat) (z N bk bn : Int) (hn : n = l.length) (hl : n ≤ 1000) (w : World) (h : RC w w.heap.size A l) :
    Calls Tryd.prog 38 #[.slice A n c, .int .i64 z, .int .i64 N, .agg #[.int .i64 bk, .int .i64 bn]] w fun e w' => ∃ v, e = .returned v ∧ OC w.heap.size w' v (delRow l z N (blankC bk bn)) ∧ Below w.heap.size w w' := by
  have hb : Below w.heap.size w (((w.alloc (.cells #[.int .i64 z] 3)).alloc (.cells #[.int .i64 N] 3)).alloc (.cells #[.int .i64 bk, .int .i64 bn] 32)) := belA (belA (belA (Below.refl _ _) _) _) _
  have s0 : (w.alloc (.cells #[.int .i64 z] 3)).heap.size = w.heap.size + 1 := by simp
  have s1 : ((w.alloc (.cells #[.int .i64 z] 3)).alloc (.cells #[.int .i64 N] 3)).heap.size = w.heap.size + 2 := by simp
  have hA := belA (belA (Below.refl (w.alloc (.cells #[.int .i64 z] 3)).heap.size _) (.cells #[.int .i64 N] 3)) (.cells #[.int .i64 bk, .int .i64 bn] 32)
  have hA2 := belA (Below.refl ((w.alloc (.cells #[.int .i64 z] 3)).alloc (.cells #[.int .i64 N] 3)).heap.size _) (.cells #[.int .i64 bk, .int .i64 bn] 32)
  have b1 := (hA.block w.heap.size (by omega)).trans (heap_alloc_new w (.cells #[.int .i64 z] 3))
  have n2 := heap_alloc_new (w.alloc (.cells #[.int .i64 z] 3)) (.cells #[.int .i64 N] 3)
  rw [s0] at n2
  have b2 := (hA2.block (w.heap.size + 1) (by omega)).trans n2
  have b3 := heap_alloc_new ((w.alloc (.cells #[.int .i64 z] 3)).alloc (.cells #[.int .i64 N] 3)) (.cells #[.int .i64 bk, .int .i64 bn] 32)
  rw [s1] at b3
  have HAT : Hid (Calls Tryd.prog 48 #[.slice A n c, .int .i64 z, .func (.func 65) #[] #[.pointer (some ⟨w.heap.size, 0, none⟩), .pointer (some ⟨w.heap.size + 1, 0, none⟩), .pointer (some ⟨w.heap.size + 2, 0, none⟩)]] (((w.alloc (.cells #[.int .i64 z] 3)).alloc (.cells #[.int .i64 N] 3)).alloc (.cells #[.int .i64 bk, .int .i64 bn] 32)) fun e w' => ∃ v, e = .returned v ∧ OC w.heap.size w' v (delRow l z N (blankC bk bn)) ∧ Below w.heap.size w w') := Lib.hid (by
    unfold delRow
    by_cases hz : 0 ≤ z ∧ z < (l.length : Int)
    · rw [if_pos hz]
      obtain ⟨x, hx⟩ : ∃ x : Nat, z = x := ⟨z.toNat, by omega⟩
      subst hx
      rw [Int.toNat_natCast]
      have hxl : x < l.length := by omega
      obtain ⟨k, hk⟩ : ∃ k : Nat, max (min N ((l.length - x : Nat) : Int)) 0 = (k : Int) := ⟨(max (min N ((l.length - x : Nat) : Int)) 0).toNat, by omega⟩
      rw [hk, Int.toNat_natCast]
      have hkn : k ≤ l.length - x := by omega
      refine (atDelete_in A l _ n c x _ _ _ hn hl (by omega) (by rw [blankK_len, movL_len _ _ _ _ (by rw [mendL_len]; omega) (by rw [mendL_len]; omega), mendL_len, hn]) _ (h.past hb) fun W g c' hW hc' hm => ?_).mono fun e w' ⟨v, he, ho, hb'⟩ => ⟨v, he, ho.lower hb.size, bel0 hb hb'⟩
      have q1 := (hW.block _ (Array.getElem?_eq_some_iff.1 b1).1).trans b1
      have q2 := (hW.block _ (Array.getElem?_eq_some_iff.1 b2).1).trans b2
      have q3 := (hW.block _ (Array.getElem?_eq_some_iff.1 b3).1).trans b3
      subst hn
      exact delFn_any g l.length c' x k _ _ _ N (mendL l) bk bn (by rw [mendL_len]) hl hc' hxl hkn hk W hm q1 q2 q3
    · rw [if_neg hz]
      exact (atDelete_out A l n c z _ hn hl (by omega) _ (h.past hb)).mono fun e w' ⟨v, he, ho, hb'⟩ => ⟨v, he, ho.lower hb.size, bel0 hb hb'⟩)
  clear h hn hl hb s0 s1 hA hA2 b1 n2 b2 b3
  generalize delRow l z N (blankC bk bn) = L at *
  go_enter Tryd.func38, Tryd.ntmps38
  go_wp2_with (go_at_call 48; (with_reducible refine (HAT.out).mono ?_); rintro e w1 ⟨v, rfl, ho, hb⟩; have HO1 := Lib.hid ho; have HB1 := Lib.hid hb; clear ho hb)
  go_ret
  exact ⟨_, rfl, HO1.out, HB1.out⟩
end Go.Proofs.YtoiekhjmfoodiaaDoor
