/- The walk of the document's extended, whatever groups stand there. -/
import Derived.Test.YtlndmfbopopmmaaDoorBc
import Derived.StillTactics
namespace Go.Proofs.YtlndmfbopopmmaaDoor
open Go.RowKit

theorem ext_out {w W : World} (h : Below w.heap.size w W) (v0 v1 : Value) : Below w.heap.size w ((W.setCell ⟨w.heap.size, 0, none⟩ v0).setCell ⟨w.heap.size, 1, none⟩ v1) :=
  (h.setCell (p := ⟨w.heap.size, 0, none⟩) (Nat.le_refl _) _).setCell (p := ⟨w.heap.size, 1, none⟩) (Nat.le_refl _) _
theorem most0_range (x : Int) (h : x < 256) : 0 ≤ most0Z x ∧ most0Z x ≤ 255 := by unfold most0Z; split <;> omega
set_option maxRecDepth 100000 in
set_option maxHeartbeats 8000000 in
theorem ext_mix (b off n c i br offr cr m : Nat) (g : List Int) (t : List (List Int)) (hi : i < n) (hi63 : n ≤ 1000000) (hm : g.length = m) (h56 : m = 5 ∨ m = 6) (h2 : g[1]?.getD 0 = 2) (w : World)
    (hc : ∀ W, Below w.heap.size w W → W.cell? ⟨b, off + i, none⟩ = some (.slice (some ⟨br, offr, none⟩) m cr)) (hg : GAt w br offr g) :
    Calls Tryd.prog 28 #[.slice (some ⟨b, off, none⟩) n c, .int .i64 i] w (ExtPost g t i w) := by
  have hb1 := belA (Below.refl w.heap.size w) (.cells #[.int .i64 0, .int .i64 0] 23)
  have hcc := hc _ hb1
  have h1 : _ = some (Value.int .i64 (g[1]?.getD 0)) := hg _ hb1 1 (by omega)
  rw [h2] at h1
  have HSS : Hid (∀ W, Below w.heap.size w W → W.cell? ⟨br, offr + (m - 1), none⟩ = some (.int .i64 (g[m - 1]?.getD 0)) ∧ W.cell? ⟨br, offr + (m - 2), none⟩ = some (.int .i64 (g[m - 2]?.getD 0)) ∧ W.cell? ⟨br, offr + (m - 3), none⟩ = some (.int .i64 (g[m - 3]?.getD 0))) := Lib.hid fun W hW => ⟨hg W hW (m - 1) (by omega), hg W hW (m - 2) (by omega), hg W hW (m - 3) (by omega)⟩
  have hX := hg _ hb1 (m - 1) (by omega)
  have hY := hg _ hb1 (m - 2) (by omega)
  have hZ := hg _ hb1 (m - 3) (by omega)
  have hii : (i : Int) < n := by omega
  have hi6 : (i : Int) ≤ 1000000 := by omega
  have HE1 : Hid (g[m - 1]?.getD 0 < 256 ∧ g[m - 2]?.getD 0 < 256 ∧ g[m - 3]?.getD 0 < 256 → extP g t = ((2, 65536 * most0Z (g[m - 3]?.getD 0) + 256 * most0Z (g[m - 2]?.getD 0) + most0Z (g[m - 1]?.getD 0)), true, 1)) := Lib.hid fun h => by
    unfold extP
    rw [hm, if_pos (by omega), if_neg (by rw [h2]; omega), if_pos ⟨h2, h56, h.1, h.2.1, h.2.2⟩]
  have HE2 : Hid (¬ (g[m - 1]?.getD 0 < 256 ∧ g[m - 2]?.getD 0 < 256 ∧ g[m - 3]?.getD 0 < 256) → extP g t = ((0, 0), false, 1)) := Lib.hid fun h => by
    unfold extP
    rw [hm, if_pos (by omega), if_neg (by rw [h2]; omega), if_neg (fun h' => h h'.2.2)]
  clear hc hg hi hb1 h2 hi63
  unfold ExtPost
  generalize g[m - 1]?.getD 0 = X at *
  generalize g[m - 2]?.getD 0 = Y at *
  generalize g[m - 3]?.getD 0 = Z at *
  have HM := Lib.hid (fun x W => most0_same x W)
  have hmm : (m == 5 || m == 6) = true := by rcases h56 with rfl | rfl <;> rfl
  by_cases dX : X < 256
  · by_cases dY : Y < 256
    · by_cases dZ : Z < 256
      · have HE := Lib.hid (HE1.out ⟨dX, dY, dZ⟩)
        rw [HE.out]
        clear HE1 HE2 hm hmm
        have eX : decide (X < 256) = true := decide_eq_true dX
        have eY : decide (Y < 256) = true := decide_eq_true dY
        have eZ : decide (Z < 256) = true := decide_eq_true dZ
        have rX := most0_range X dX
        have rY := most0_range Y dY
        have rZ := most0_range Z dZ
        have HMX : Hid (∀ W, Calls Tryd.prog 36 #[.int .i64 X] W fun e w' => e = .returned (.int .i64 (most0Z X)) ∧ w' = W) := Lib.hid (HM.out X)
        have HMY : Hid (∀ W, Calls Tryd.prog 36 #[.int .i64 Y] W fun e w' => e = .returned (.int .i64 (most0Z Y)) ∧ w' = W) := Lib.hid (HM.out Y)
        have HMZ : Hid (∀ W, Calls Tryd.prog 36 #[.int .i64 Z] W fun e w' => e = .returned (.int .i64 (most0Z Z)) ∧ w' = W) := Lib.hid (HM.out Z)
        generalize most0Z X = P at *
        generalize most0Z Y = Q at *
        generalize most0Z Z = R at *
        obtain ⟨p0, p1⟩ := rX
        obtain ⟨q0, q1⟩ := rY
        obtain ⟨r0, r1⟩ := rZ
        have u1 : IntKind.i64.wrap (65536 * R) = 65536 * R := IntWalk.i64_in _ (by omega)
        have u2 : IntKind.i64.wrap (256 * Q) = 256 * Q := IntWalk.i64_in _ (by omega)
        have u3 : IntKind.i64.wrap (65536 * R + 256 * Q) = 65536 * R + 256 * Q := IntWalk.i64_in _ (by omega)
        have u4 : IntKind.i64.wrap (65536 * R + 256 * Q + P) = 65536 * R + 256 * Q + P := IntWalk.i64_in _ (by omega)
        have u5 : IntKind.i64.wrap ((i : Int) + 1) = (i : Int) + 1 := IntWalk.i64_in _ (by omega)
        rcases h56 with rfl | rfl
        · go_enter Tryd.func28, Tryd.ntmps28
          go_wp2
          have z1 : IntKind.i64.wrap (5 - 1) = 4 := IntWalk.i64_in _ (by omega)
          have y1 : IntKind.i64.wrap 4 = 4 := IntWalk.i64_in _ (by omega)
          have z2 : IntKind.i64.wrap (5 - 2) = 3 := IntWalk.i64_in _ (by omega)
          have y2 : IntKind.i64.wrap 3 = 3 := IntWalk.i64_in _ (by omega)
          have z3 : IntKind.i64.wrap (5 - 3) = 2 := IntWalk.i64_in _ (by omega)
          have y3 : IntKind.i64.wrap 2 = 2 := IntWalk.i64_in _ (by omega)
          go_region_held3 (fun W => W.cell? ⟨br, offr + 4, none⟩ = some (.int .i64 X) ∧ W.cell? ⟨br, offr + 3, none⟩ = some (.int .i64 Y) ∧ W.cell? ⟨br, offr + 2, none⟩ = some (.int .i64 Z))
            (first | exact HSS.out _ (belA (Below.refl _ _) _).drew | exact HSS.out _ (belA (Below.refl _ _).drew _) | exact HSS.out _ (ext_out (belA (Below.refl _ _) _).drew _ _) | assumption)
            (first
              | (go_at_call 36; first | ((with_reducible refine (HMX.out _).mono ?_); rintro e w2 ⟨rfl, rfl⟩) | ((with_reducible refine (HMY.out _).mono ?_); rintro e w2 ⟨rfl, rfl⟩) | ((with_reducible refine (HMZ.out _).mono ?_); rintro e w2 ⟨rfl, rfl⟩)))
          go_wp2
          exact bodyPost_ret (v := .tuple #[.agg #[.int .i64 2, .int .i64 (65536 * R + 256 * Q + P)], .bool true, .int .i64 ((i + 1 : Nat) : Int)]) (by simp [results, Tryd.results28, go_sem]) rfl ⟨rfl, by first | exact belA (Below.refl _ _) _ | exact (belA (Below.refl _ _) _).drew | exact belA (Below.refl _ _).drew _ | exact ext_out (belA (Below.refl _ _) _).drew _ _⟩
        · go_enter Tryd.func28, Tryd.ntmps28
          go_wp2
          have z1 : IntKind.i64.wrap (6 - 1) = 5 := IntWalk.i64_in _ (by omega)
          have y1 : IntKind.i64.wrap 5 = 5 := IntWalk.i64_in _ (by omega)
          have z2 : IntKind.i64.wrap (6 - 2) = 4 := IntWalk.i64_in _ (by omega)
          have y2 : IntKind.i64.wrap 4 = 4 := IntWalk.i64_in _ (by omega)
          have z3 : IntKind.i64.wrap (6 - 3) = 3 := IntWalk.i64_in _ (by omega)
          have y3 : IntKind.i64.wrap 3 = 3 := IntWalk.i64_in _ (by omega)
          go_region_held3 (fun W => W.cell? ⟨br, offr + 5, none⟩ = some (.int .i64 X) ∧ W.cell? ⟨br, offr + 4, none⟩ = some (.int .i64 Y) ∧ W.cell? ⟨br, offr + 3, none⟩ = some (.int .i64 Z))
            (first | exact HSS.out _ (belA (Below.refl _ _) _).drew | exact HSS.out _ (belA (Below.refl _ _).drew _) | exact HSS.out _ (ext_out (belA (Below.refl _ _) _).drew _ _) | assumption)
            (first
              | (go_at_call 36; first | ((with_reducible refine (HMX.out _).mono ?_); rintro e w2 ⟨rfl, rfl⟩) | ((with_reducible refine (HMY.out _).mono ?_); rintro e w2 ⟨rfl, rfl⟩) | ((with_reducible refine (HMZ.out _).mono ?_); rintro e w2 ⟨rfl, rfl⟩)))
          go_wp2
          exact bodyPost_ret (v := .tuple #[.agg #[.int .i64 2, .int .i64 (65536 * R + 256 * Q + P)], .bool true, .int .i64 ((i + 1 : Nat) : Int)]) (by simp [results, Tryd.results28, go_sem]) rfl ⟨rfl, by first | exact belA (Below.refl _ _) _ | exact (belA (Below.refl _ _) _).drew | exact belA (Below.refl _ _).drew _ | exact ext_out (belA (Below.refl _ _) _).drew _ _⟩
      · skip
        have HE := Lib.hid (HE2.out (by omega))
        rw [HE.out]
        have eX : decide (X < 256) = true := decide_eq_true dX
        have eY : decide (Y < 256) = true := decide_eq_true dY
        have eZ : decide (Z < 256) = false := decide_eq_false dZ
        clear HE1 HE2 hm dX dY dZ
        rcases h56 with rfl | rfl
        · go_enter Tryd.func28, Tryd.ntmps28
          go_wp2
          exact bodyPost_ret (v := .tuple #[.agg #[.int .i64 0, .int .i64 0], .bool false, .int .i64 ((i + 1 : Nat) : Int)]) (by simp [results, Tryd.results28, go_sem]) rfl ⟨rfl, belA (Below.refl _ _) _⟩
        · go_enter Tryd.func28, Tryd.ntmps28
          go_wp2
          exact bodyPost_ret (v := .tuple #[.agg #[.int .i64 0, .int .i64 0], .bool false, .int .i64 ((i + 1 : Nat) : Int)]) (by simp [results, Tryd.results28, go_sem]) rfl ⟨rfl, belA (Below.refl _ _) _⟩
    · skip
      have HE := Lib.hid (HE2.out (by omega))
      rw [HE.out]
      have eX : decide (X < 256) = true := decide_eq_true dX
      have eY : decide (Y < 256) = false := decide_eq_false dY
      clear HE1 HE2 hm dX dY
      rcases h56 with rfl | rfl
      · go_enter Tryd.func28, Tryd.ntmps28
        go_wp2
        exact bodyPost_ret (v := .tuple #[.agg #[.int .i64 0, .int .i64 0], .bool false, .int .i64 ((i + 1 : Nat) : Int)]) (by simp [results, Tryd.results28, go_sem]) rfl ⟨rfl, belA (Below.refl _ _) _⟩
      · go_enter Tryd.func28, Tryd.ntmps28
        go_wp2
        exact bodyPost_ret (v := .tuple #[.agg #[.int .i64 0, .int .i64 0], .bool false, .int .i64 ((i + 1 : Nat) : Int)]) (by simp [results, Tryd.results28, go_sem]) rfl ⟨rfl, belA (Below.refl _ _) _⟩
  · skip
    have HE := Lib.hid (HE2.out (by omega))
    rw [HE.out]
    have eX : decide (X < 256) = false := decide_eq_false dX
    clear HE1 HE2 hm dX
    rcases h56 with rfl | rfl
    · go_enter Tryd.func28, Tryd.ntmps28
      go_wp2
      exact bodyPost_ret (v := .tuple #[.agg #[.int .i64 0, .int .i64 0], .bool false, .int .i64 ((i + 1 : Nat) : Int)]) (by simp [results, Tryd.results28, go_sem]) rfl ⟨rfl, belA (Below.refl _ _) _⟩
    · go_enter Tryd.func28, Tryd.ntmps28
      go_wp2
      exact bodyPost_ret (v := .tuple #[.agg #[.int .i64 0, .int .i64 0], .bool false, .int .i64 ((i + 1 : Nat) : Int)]) (by simp [results, Tryd.results28, go_sem]) rfl ⟨rfl, belA (Below.refl _ _) _⟩

set_option maxRecDepth 100000 in
set_option maxHeartbeats 8000000 in
theorem ext_none (b off n c i br offr cr m : Nat) (g : List Int) (t : List (List Int)) (hi : i < n) (hi63 : n ≤ 1000000) (hm : g.length = m) (h1m : 1 < m) (h8 : m ≤ 1000) (n5 : ¬ (g[1]?.getD 0 = 5 ∧ m = 3)) (n2 : ¬ (g[1]?.getD 0 = 2 ∧ (m = 5 ∨ m = 6))) (w : World)
    (hc : ∀ W, Below w.heap.size w W → W.cell? ⟨b, off + i, none⟩ = some (.slice (some ⟨br, offr, none⟩) m cr)) (hg : GAt w br offr g) :
    Calls Tryd.prog 28 #[.slice (some ⟨b, off, none⟩) n c, .int .i64 i] w (ExtPost g t i w) := by
  have hb1 := belA (Below.refl w.heap.size w) (.cells #[.int .i64 0, .int .i64 0] 23)
  have hcc := hc _ hb1
  have h1 := hg _ hb1 1 (by omega)
  have hii : (i : Int) < n := by omega
  have hi6 : (i : Int) ≤ 1000000 := by omega
  have h1i : (1 : Int) < m := by omega
  have hm8 : (m : Int) ≤ 1000 := by omega
  have HE : Hid (extP g t = ((0, 0), false, 1)) := Lib.hid (by
    unfold extP
    rw [hm, if_pos h1m, if_neg (fun h => n5 ⟨h.1, h.2.1⟩), if_neg (fun h => n2 ⟨h.1, h.2.1⟩)])
  unfold ExtPost
  rw [HE.out]
  clear hc hg hi hb1 hi63 hm
  generalize g[1]?.getD 0 = y at *
  by_cases y5 : y = 5
  · subst y5
    have m3 : ((m : Int) == 3) = false := by simp; omega
    clear n5 n2
    go_enter Tryd.func28, Tryd.ntmps28
    go_wp2
    exact bodyPost_ret (v := .tuple #[.agg #[.int .i64 0, .int .i64 0], .bool false, .int .i64 ((i + 1 : Nat) : Int)]) (by simp [results, Tryd.results28, go_sem]) rfl ⟨rfl, belA (Below.refl _ _) _⟩
  have b5 : (y == 5) = false := by simpa using y5
  by_cases y2 : y = 2
  · subst y2
    have m5 : ((m : Int) == 5) = false := by simp; omega
    have m6 : ((m : Int) == 6) = false := by simp; omega
    clear n5 n2 y5
    go_enter Tryd.func28, Tryd.ntmps28
    go_wp2
    exact bodyPost_ret (v := .tuple #[.agg #[.int .i64 0, .int .i64 0], .bool false, .int .i64 ((i + 1 : Nat) : Int)]) (by simp [results, Tryd.results28, go_sem]) rfl ⟨rfl, belA (Below.refl _ _) _⟩
  have b2 : (y == 2) = false := by simpa using y2
  clear n5 n2 y5 y2
  go_enter Tryd.func28, Tryd.ntmps28
  go_wp2
  exact bodyPost_ret (v := .tuple #[.agg #[.int .i64 0, .int .i64 0], .bool false, .int .i64 ((i + 1 : Nat) : Int)]) (by simp [results, Tryd.results28, go_sem]) rfl ⟨rfl, belA (Below.refl _ _) _⟩

set_option maxRecDepth 100000 in
set_option maxHeartbeats 16000000 in
theorem ext_one (b off n c i br offr cr : Nat) (g : List Int) (t : List (List Int)) (hi : i < n) (hi63 : n ≤ 1000000) (hm : g.length = 1) (hv : ∀ k, 0 ≤ atZ t k ∧ atZ t k ≤ 65535) (w : World)
    (hc : ∀ W, Below w.heap.size w W → W.cell? ⟨b, off + i, none⟩ = some (.slice (some ⟨br, offr, none⟩) 1 cr))
    (hat : ∀ W (k : Nat) (j : Int), Below w.heap.size w W → j = (i : Int) + (k + 1 : Nat) → Calls Tryd.prog 27 #[.slice (some ⟨b, off, none⟩) n c, .int .i64 j] W fun e w' => e = .returned (.tuple #[.int .i64 (atZ t k), .bool (decide (k < t.length))]) ∧ W = w') :
    Calls Tryd.prog 28 #[.slice (some ⟨b, off, none⟩) n c, .int .i64 i] w (ExtPost g t i w) := by
  have hb1 := belA (Below.refl w.heap.size w) (.cells #[.int .i64 0, .int .i64 0] 23)
  have hcc := hc _ hb1
  have hii : (i : Int) < n := by omega
  have hi6 : (i : Int) ≤ 1000000 := by omega
  have HA0 : Hid (∀ W, Below w.heap.size w W → Calls Tryd.prog 27 #[.slice (some ⟨b, off, none⟩) n c, .int .i64 ((i : Int) + 1)] W fun e w' => e = .returned (.tuple #[.int .i64 (atZ t 0), .bool (decide (0 < t.length))]) ∧ W = w') := Lib.hid fun W hW => hat W 0 _ hW (by omega)
  have HA1 : Hid (∀ W, Below w.heap.size w W → Calls Tryd.prog 27 #[.slice (some ⟨b, off, none⟩) n c, .int .i64 ((i : Int) + 2)] W fun e w' => e = .returned (.tuple #[.int .i64 (atZ t 1), .bool (decide (1 < t.length))]) ∧ W = w') := Lib.hid fun W hW => hat W 1 _ hW (by omega)
  have HA2 : Hid (∀ W, Below w.heap.size w W → Calls Tryd.prog 27 #[.slice (some ⟨b, off, none⟩) n c, .int .i64 ((i : Int) + 3)] W fun e w' => e = .returned (.tuple #[.int .i64 (atZ t 2), .bool (decide (2 < t.length))]) ∧ W = w') := Lib.hid fun W hW => hat W 2 _ hW (by omega)
  have HA3 : Hid (∀ W, Below w.heap.size w W → Calls Tryd.prog 27 #[.slice (some ⟨b, off, none⟩) n c, .int .i64 ((i : Int) + 4)] W fun e w' => e = .returned (.tuple #[.int .i64 (atZ t 3), .bool (decide (3 < t.length))]) ∧ W = w') := Lib.hid fun W hW => hat W 3 _ hW (by omega)
  have HE : Hid (extP g t = if atZ t 0 = 5 then ((1, atZ t 1), decide (1 < t.length) && decide (atZ t 1 < 256), 3)
  else if atZ t 0 = 2 then ((2, 65536 * atZ t 1 + 256 * atZ t 2 + atZ t 3), decide (1 < t.length) && (decide (2 < t.length) && (decide (3 < t.length) && (decide (atZ t 1 < 256) && (decide (atZ t 2 < 256) && decide (atZ t 3 < 256))))), 5)
  else ((0, 0), false, 2)) := Lib.hid (by unfold extP; rw [if_neg (by omega)])
  have v1 := hv 1
  have v2 := hv 2
  have v3 := hv 3
  unfold ExtPost
  rw [HE.out]
  clear hc hat hi hb1 hi63 hm hv HE
  generalize decide (0 < t.length) = k0 at *
  generalize decide (1 < t.length) = k1 at *
  generalize decide (2 < t.length) = k2 at *
  generalize decide (3 < t.length) = k3 at *
  generalize atZ t 0 = how at *
  generalize atZ t 1 = x1 at *
  generalize atZ t 2 = x2 at *
  generalize atZ t 3 = x3 at *
  obtain ⟨v10, v11⟩ := v1
  obtain ⟨v20, v21⟩ := v2
  obtain ⟨v30, v31⟩ := v3
  by_cases h5 : how = 5
  · subst h5
    rw [if_pos rfl]
    rcases Bool.eq_false_or_eq_true k1 with rfl | rfl
    · generalize hd : decide (x1 < 256) = d1
      rcases Bool.eq_false_or_eq_true d1 with rfl | rfl
      · skip
        go_enter Tryd.func28, Tryd.ntmps28
        go_wp2_with (go_at_call 27; first | ((with_reducible refine (HA0.out _ (belA (Below.refl _ _) _)).mono ?_); rintro e w2 ⟨rfl, rfl⟩) | ((with_reducible refine (HA1.out _ (belA (Below.refl _ _) _)).mono ?_); rintro e w2 ⟨rfl, rfl⟩) | ((with_reducible refine (HA2.out _ (belA (Below.refl _ _) _)).mono ?_); rintro e w2 ⟨rfl, rfl⟩) | ((with_reducible refine (HA3.out _ (belA (Below.refl _ _) _)).mono ?_); rintro e w2 ⟨rfl, rfl⟩))
        exact bodyPost_ret (v := .tuple #[.agg #[.int .i64 1, .int .i64 x1], .bool true, .int .i64 ((i + 3 : Nat) : Int)]) (by simp [results, Tryd.results28, go_sem]) rfl ⟨rfl, belA (Below.refl _ _) _⟩
      · skip
        go_enter Tryd.func28, Tryd.ntmps28
        go_wp2_with (go_at_call 27; first | ((with_reducible refine (HA0.out _ (belA (Below.refl _ _) _)).mono ?_); rintro e w2 ⟨rfl, rfl⟩) | ((with_reducible refine (HA1.out _ (belA (Below.refl _ _) _)).mono ?_); rintro e w2 ⟨rfl, rfl⟩) | ((with_reducible refine (HA2.out _ (belA (Below.refl _ _) _)).mono ?_); rintro e w2 ⟨rfl, rfl⟩) | ((with_reducible refine (HA3.out _ (belA (Below.refl _ _) _)).mono ?_); rintro e w2 ⟨rfl, rfl⟩))
        exact bodyPost_ret (v := .tuple #[.agg #[.int .i64 1, .int .i64 x1], .bool false, .int .i64 ((i + 3 : Nat) : Int)]) (by simp [results, Tryd.results28, go_sem]) rfl ⟨rfl, belA (Below.refl _ _) _⟩
    · skip
      go_enter Tryd.func28, Tryd.ntmps28
      go_wp2_with (go_at_call 27; first | ((with_reducible refine (HA0.out _ (belA (Below.refl _ _) _)).mono ?_); rintro e w2 ⟨rfl, rfl⟩) | ((with_reducible refine (HA1.out _ (belA (Below.refl _ _) _)).mono ?_); rintro e w2 ⟨rfl, rfl⟩) | ((with_reducible refine (HA2.out _ (belA (Below.refl _ _) _)).mono ?_); rintro e w2 ⟨rfl, rfl⟩) | ((with_reducible refine (HA3.out _ (belA (Below.refl _ _) _)).mono ?_); rintro e w2 ⟨rfl, rfl⟩))
      exact bodyPost_ret (v := .tuple #[.agg #[.int .i64 1, .int .i64 x1], .bool false, .int .i64 ((i + 3 : Nat) : Int)]) (by simp [results, Tryd.results28, go_sem]) rfl ⟨rfl, belA (Below.refl _ _) _⟩
  rw [if_neg h5]
  have b5 : (how == 5) = false := by simpa using h5
  clear h5
  by_cases h2 : how = 2
  · subst h2
    rw [if_pos rfl]
    generalize hN : 65536 * x1 + 256 * x2 + x3 = NN
    have u1 : wrap64 (65536 * x1) = 65536 * x1 := IntWalk.wrap64_in _ (by omega)
    have u2 : wrap64 (256 * x2) = 256 * x2 := IntWalk.wrap64_in _ (by omega)
    generalize hd1 : decide (x1 < 256) = d1
    generalize hd2 : decide (x2 < 256) = d2
    generalize hd3 : decide (x3 < 256) = d3
    rcases Bool.eq_false_or_eq_true k1 with rfl | rfl
    · skip
      rcases Bool.eq_false_or_eq_true k2 with rfl | rfl
      · skip
        rcases Bool.eq_false_or_eq_true k3 with rfl | rfl
        · skip
          rcases Bool.eq_false_or_eq_true d1 with rfl | rfl
          · skip
            rcases Bool.eq_false_or_eq_true d2 with rfl | rfl
            · skip
              rcases Bool.eq_false_or_eq_true d3 with rfl | rfl
              · skip
                go_enter Tryd.func28, Tryd.ntmps28
                go_wp2_with (go_at_call 27; first | ((with_reducible refine (HA0.out _ (belA (Below.refl _ _) _)).mono ?_); rintro e w2 ⟨rfl, rfl⟩) | ((with_reducible refine (HA1.out _ (belA (Below.refl _ _) _)).mono ?_); rintro e w2 ⟨rfl, rfl⟩) | ((with_reducible refine (HA2.out _ (belA (Below.refl _ _) _)).mono ?_); rintro e w2 ⟨rfl, rfl⟩) | ((with_reducible refine (HA3.out _ (belA (Below.refl _ _) _)).mono ?_); rintro e w2 ⟨rfl, rfl⟩))
                exact bodyPost_ret (v := .tuple #[.agg #[.int .i64 2, .int .i64 NN], .bool true, .int .i64 ((i + 5 : Nat) : Int)]) (by simp [results, Tryd.results28, go_sem]) rfl ⟨rfl, belA (Below.refl _ _) _⟩
              · skip
                go_enter Tryd.func28, Tryd.ntmps28
                go_wp2_with (go_at_call 27; first | ((with_reducible refine (HA0.out _ (belA (Below.refl _ _) _)).mono ?_); rintro e w2 ⟨rfl, rfl⟩) | ((with_reducible refine (HA1.out _ (belA (Below.refl _ _) _)).mono ?_); rintro e w2 ⟨rfl, rfl⟩) | ((with_reducible refine (HA2.out _ (belA (Below.refl _ _) _)).mono ?_); rintro e w2 ⟨rfl, rfl⟩) | ((with_reducible refine (HA3.out _ (belA (Below.refl _ _) _)).mono ?_); rintro e w2 ⟨rfl, rfl⟩))
                exact bodyPost_ret (v := .tuple #[.agg #[.int .i64 2, .int .i64 NN], .bool false, .int .i64 ((i + 5 : Nat) : Int)]) (by simp [results, Tryd.results28, go_sem]) rfl ⟨rfl, belA (Below.refl _ _) _⟩
            · skip
              go_enter Tryd.func28, Tryd.ntmps28
              go_wp2_with (go_at_call 27; first | ((with_reducible refine (HA0.out _ (belA (Below.refl _ _) _)).mono ?_); rintro e w2 ⟨rfl, rfl⟩) | ((with_reducible refine (HA1.out _ (belA (Below.refl _ _) _)).mono ?_); rintro e w2 ⟨rfl, rfl⟩) | ((with_reducible refine (HA2.out _ (belA (Below.refl _ _) _)).mono ?_); rintro e w2 ⟨rfl, rfl⟩) | ((with_reducible refine (HA3.out _ (belA (Below.refl _ _) _)).mono ?_); rintro e w2 ⟨rfl, rfl⟩))
              exact bodyPost_ret (v := .tuple #[.agg #[.int .i64 2, .int .i64 NN], .bool false, .int .i64 ((i + 5 : Nat) : Int)]) (by simp [results, Tryd.results28, go_sem]) rfl ⟨rfl, belA (Below.refl _ _) _⟩
          · skip
            go_enter Tryd.func28, Tryd.ntmps28
            go_wp2_with (go_at_call 27; first | ((with_reducible refine (HA0.out _ (belA (Below.refl _ _) _)).mono ?_); rintro e w2 ⟨rfl, rfl⟩) | ((with_reducible refine (HA1.out _ (belA (Below.refl _ _) _)).mono ?_); rintro e w2 ⟨rfl, rfl⟩) | ((with_reducible refine (HA2.out _ (belA (Below.refl _ _) _)).mono ?_); rintro e w2 ⟨rfl, rfl⟩) | ((with_reducible refine (HA3.out _ (belA (Below.refl _ _) _)).mono ?_); rintro e w2 ⟨rfl, rfl⟩))
            exact bodyPost_ret (v := .tuple #[.agg #[.int .i64 2, .int .i64 NN], .bool false, .int .i64 ((i + 5 : Nat) : Int)]) (by simp [results, Tryd.results28, go_sem]) rfl ⟨rfl, belA (Below.refl _ _) _⟩
        · skip
          go_enter Tryd.func28, Tryd.ntmps28
          go_wp2_with (go_at_call 27; first | ((with_reducible refine (HA0.out _ (belA (Below.refl _ _) _)).mono ?_); rintro e w2 ⟨rfl, rfl⟩) | ((with_reducible refine (HA1.out _ (belA (Below.refl _ _) _)).mono ?_); rintro e w2 ⟨rfl, rfl⟩) | ((with_reducible refine (HA2.out _ (belA (Below.refl _ _) _)).mono ?_); rintro e w2 ⟨rfl, rfl⟩) | ((with_reducible refine (HA3.out _ (belA (Below.refl _ _) _)).mono ?_); rintro e w2 ⟨rfl, rfl⟩))
          exact bodyPost_ret (v := .tuple #[.agg #[.int .i64 2, .int .i64 NN], .bool false, .int .i64 ((i + 5 : Nat) : Int)]) (by simp [results, Tryd.results28, go_sem]) rfl ⟨rfl, belA (Below.refl _ _) _⟩
      · skip
        go_enter Tryd.func28, Tryd.ntmps28
        go_wp2_with (go_at_call 27; first | ((with_reducible refine (HA0.out _ (belA (Below.refl _ _) _)).mono ?_); rintro e w2 ⟨rfl, rfl⟩) | ((with_reducible refine (HA1.out _ (belA (Below.refl _ _) _)).mono ?_); rintro e w2 ⟨rfl, rfl⟩) | ((with_reducible refine (HA2.out _ (belA (Below.refl _ _) _)).mono ?_); rintro e w2 ⟨rfl, rfl⟩) | ((with_reducible refine (HA3.out _ (belA (Below.refl _ _) _)).mono ?_); rintro e w2 ⟨rfl, rfl⟩))
        exact bodyPost_ret (v := .tuple #[.agg #[.int .i64 2, .int .i64 NN], .bool false, .int .i64 ((i + 5 : Nat) : Int)]) (by simp [results, Tryd.results28, go_sem]) rfl ⟨rfl, belA (Below.refl _ _) _⟩
    · skip
      go_enter Tryd.func28, Tryd.ntmps28
      go_wp2_with (go_at_call 27; first | ((with_reducible refine (HA0.out _ (belA (Below.refl _ _) _)).mono ?_); rintro e w2 ⟨rfl, rfl⟩) | ((with_reducible refine (HA1.out _ (belA (Below.refl _ _) _)).mono ?_); rintro e w2 ⟨rfl, rfl⟩) | ((with_reducible refine (HA2.out _ (belA (Below.refl _ _) _)).mono ?_); rintro e w2 ⟨rfl, rfl⟩) | ((with_reducible refine (HA3.out _ (belA (Below.refl _ _) _)).mono ?_); rintro e w2 ⟨rfl, rfl⟩))
      exact bodyPost_ret (v := .tuple #[.agg #[.int .i64 2, .int .i64 NN], .bool false, .int .i64 ((i + 5 : Nat) : Int)]) (by simp [results, Tryd.results28, go_sem]) rfl ⟨rfl, belA (Below.refl _ _) _⟩
  rw [if_neg h2]
  have b2 : (how == 2) = false := by simpa using h2
  clear h2
  go_enter Tryd.func28, Tryd.ntmps28
  go_wp2_with (go_at_call 27; first | ((with_reducible refine (HA0.out _ (belA (Below.refl _ _) _)).mono ?_); rintro e w2 ⟨rfl, rfl⟩) | ((with_reducible refine (HA1.out _ (belA (Below.refl _ _) _)).mono ?_); rintro e w2 ⟨rfl, rfl⟩) | ((with_reducible refine (HA2.out _ (belA (Below.refl _ _) _)).mono ?_); rintro e w2 ⟨rfl, rfl⟩) | ((with_reducible refine (HA3.out _ (belA (Below.refl _ _) _)).mono ?_); rintro e w2 ⟨rfl, rfl⟩))
  exact bodyPost_ret (v := .tuple #[.agg #[.int .i64 0, .int .i64 0], .bool false, .int .i64 ((i + 2 : Nat) : Int)]) (by simp [results, Tryd.results28, go_sem]) rfl ⟨rfl, belA (Below.refl _ _) _⟩

theorem atZ_range (t : List (List Int)) (h : ∀ r ∈ t, ∀ z ∈ r, z ≤ 65535) (k : Nat) : 0 ≤ atZ t k ∧ atZ t k ≤ 65535 := by
  unfold atZ hd0 most0Z
  have hx : (t[k]?.getD []).headD 0 ≤ 65535 := by
    by_cases hk : k < t.length
    · rw [List.getElem?_eq_getElem hk, Option.getD_some]
      have := h _ (List.getElem_mem hk)
      generalize t[k] = r at *
      cases r with
      | nil => simp
      | cons x y => exact this x (by simp)
    · rw [List.getElem?_eq_none (by omega)]
      simp
  split <;> omega
theorem ext_any (A : Option Addr) (L : List (List Int)) (n c i : Nat) (hn : n = L.length) (hi : i < n) (h63 : n ≤ 1000000) (hcl : ∀ g ∈ L, g ≠ [] ∧ g.length ≤ 8 ∧ ∀ z ∈ g, z ≤ 65535) (w : World) (hR : RG w w.heap.size A L) :
    Calls Tryd.prog 28 #[.slice A n c, .int .i64 i] w (ExtPost (L[i]?.getD []) (L.drop (i + 1)) i w) := by
  have hat : ∀ W (k : Nat) (j : Int), Below w.heap.size w W → j = (i : Int) + (k + 1 : Nat) → Calls Tryd.prog 27 #[.slice A n c, .int .i64 j] W fun e w' => e = .returned (.tuple #[.int .i64 (atZ (L.drop (i + 1)) k), .bool (decide (k < (L.drop (i + 1)).length))]) ∧ W = w' := fun W k j hW hj => by
    have := at_any A L n c j (i + 1 + k) (by omega) hn (fun g hg => (hcl g hg).1) W ((hR.below hW).more hW.size)
    have e1 : atZ (L.drop (i + 1)) k = atZ L (i + 1 + k) := by
      unfold atZ
      rw [List.getElem?_drop]
    have e2 : decide (k < (L.drop (i + 1)).length) = decide (i + 1 + k < n) := by
      rw [List.length_drop]
      congr 1
      apply propext
      omega
    rw [e1, e2]
    exact this
  have hil : i < L.length := by omega
  obtain ⟨b, off, rfl, hbb, hcx⟩ := hR (fun e => by rw [e] at hil; simp at hil)
  obtain ⟨Ai, ci, hci, hri, _⟩ := hcx i hil
  have hmem : L[i]?.getD [] ∈ L := by rw [List.getElem?_eq_getElem hil]; exact List.getElem_mem hil
  have hgc := hcl _ hmem
  have hat1 : ∀ k, 0 ≤ atZ (L.drop (i + 1)) k ∧ atZ (L.drop (i + 1)) k ≤ 65535 := atZ_range _ (fun r hr => (hcl r (List.mem_of_mem_drop hr)).2.2)
  generalize L[i]?.getD [] = g at *
  generalize L.drop (i + 1) = t at *
  obtain ⟨br, offr, rfl, hbr, hcr⟩ := hri hgc.1
  have hc : ∀ W, Below w.heap.size w W → W.cell? ⟨b, off + i, none⟩ = some (.slice (some ⟨br, offr, none⟩) g.length ci) := fun W hW => (hW.cell (p := ⟨b, off + i, none⟩) hbb).trans hci
  have hg : GAt w br offr g := fun W hW k hk => (hW.cell (p := ⟨br, offr + k, none⟩) hbr).trans (hcr k hk)
  have hpos := List.length_pos_iff.2 hgc.1
  by_cases h1 : g.length = 1
  · rw [h1] at hc
    exact ext_one b off n c i br offr ci g t hi h63 h1 hat1 w hc hat
  by_cases h5 : g[1]?.getD 0 = 5 ∧ g.length = 3
  · match g, h5, hgc, hc, hg with
    | [z, y, x], h5, hgc, hc, hg =>
      obtain rfl : y = 5 := h5.1
      exact ext_five b off n c i br offr ci x z t hi h63 w hc hg
  by_cases h2 : g[1]?.getD 0 = 2 ∧ (g.length = 5 ∨ g.length = 6)
  · exact ext_mix b off n c i br offr ci _ g t hi h63 rfl h2.2 h2.1 w hc hg
  exact ext_none b off n c i br offr ci _ g t hi h63 rfl (by omega) (by omega) h5 h2 w hc hg

end Go.Proofs.YtlndmfbopopmmaaDoor
