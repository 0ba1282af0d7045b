/- The walk of the law WidthRanges. -/
import Derived.Test.YtacmldggdacdpabDoorRa
namespace Go.Proofs.YtacmldggdacdpabDoor
open Go.RowKit Go.Shelf

theorem ofZ_of {r : Int} (h1 : 768 ≤ r) (h2 : r < 55296 ∨ 57343 < r) (h3 : r ≤ 1114111) : ofZ r = if inL marksL r then 0 else if inL widesL r then 2 else 1 := by
  have h : noneB r = false := decide_eq_false (by omega)
  unfold ofZ
  rw [h, if_neg (by omega : ¬ r < 768)]
  rfl
theorem marks_bd : ∀ x ∈ marksL, 768 ≤ x.1 ∧ (x.2 < 55296 ∨ 57343 < x.1) ∧ x.2 ≤ 1114111 := by decide
theorem wides_bd : ∀ x ∈ widesL, 768 ≤ x.1 ∧ (x.2 < 55296 ∨ 57343 < x.1) ∧ x.2 ≤ 1114111 := by decide
theorem apart_bd : ∀ x ∈ widesL, ∀ y ∈ marksL, x.2 < y.1 ∨ y.2 < x.1 := by decide
theorem ofZ_marks {r : Int} {x : Int × Int} (hx : x ∈ marksL) (h1 : x.1 ≤ r) (h2 : r ≤ x.2) : ofZ r = 0 := by
  obtain ⟨b1, b2, b3⟩ := marks_bd x hx
  rw [ofZ_of (by omega) (by omega) (by omega), show inL marksL r = true from List.any_eq_true.2 ⟨x, hx, by simp [hasB, h1, h2]⟩]
  rfl
theorem ofZ_wides {r : Int} {x : Int × Int} (hx : x ∈ widesL) (h1 : x.1 ≤ r) (h2 : r ≤ x.2) : ofZ r = 2 := by
  obtain ⟨b1, b2, b3⟩ := wides_bd x hx
  have hm : inL marksL r = false := by
    cases h : inL marksL r with
    | false => rfl
    | true =>
      obtain ⟨y, hy, hb⟩ := List.any_eq_true.1 h
      have := apart_bd x hx y hy
      simp [hasB] at hb
      omega
  rw [ofZ_of (by omega) (by omega) (by omega), hm, show inL widesL r = true from List.any_eq_true.2 ⟨x, hx, by simp [hasB, h1, h2]⟩]
  rfl
theorem own_tab {w : World} {base g c : Nat} {l : List (Int × Int)} (h : w.ownsRow base 27 2 (.slice (some ⟨g, 0, none⟩) l.length c) l.length (flatV l)) : Tab w g l :=
  ⟨(h.lt g rfl).2, fun k hk => by
    have hf := flatV_at l k hk
    exact ⟨(h.cellAt (k * 2) (by omega)).trans hf.1, (h.cellAt (k * 2 + 1) (by omega)).trans hf.2⟩⟩

theorem below_drewN' {B : Nat} {a w : World} (h : Below B a w) (n : Nat) : Below B a (w.drewN n) := ⟨h.os, h.tape, h.output, h.size, h.block⟩

set_option maxHeartbeats 1000000 in
theorem law0 (i r : Int) (hi0 : 0 ≤ i) (hi1 : i ≤ 255) (w : World) (hT : WT w) :
    Calls Tryd.prog 3 #[.int .i64 0, .int .u8 i, .int .i32 r] w fun e w' => e = .returned (.bool true) ∧ Below w.heap.size w w' := by
  have HA : Hid (∀ W, Below w.heap.size w W → Calls Tryd.prog 7 #[] W fun e w' => e = .returned (.bool true) ∧ Below W.heap.size W w') := Lib.hid fun W hW => awake_any W (hT.below hW)
  have HO : Hid (∀ W, Below w.heap.size w W → Calls Tryd.prog 8 #[.int .i32 r] W fun e w' => e = .returned (.int .i64 (ofZ r)) ∧ Below W.heap.size W w') := Lib.hid fun W hW => widthOf_any r W (hT.below hW)
  have h0 := ranges0 w hT.1
  clear hT
  go_enter Tryd.func3, Tryd.ntmps3
  go_wp2_with (first | (go_at_call 4; refine h0.mono ?_; clear h0; rintro e w1 ⟨v, rfl, ho, hb1⟩; obtain ⟨g, c, rfl⟩ := ownsRow_succ' (show 0 < marksL.length by decide) ho; have HT1 := Lib.hid (own_tab ho); clear ho; rw [show marksL.length = 19 from rfl]) | (go_at_call 5; refine (marksFn_any _).mono ?_; rintro e w2 ⟨rfl, ht2, hb2⟩; have HT2 := Lib.hid ht2; clear ht2; have hb2' := hb1.trans (((Below.refl w1.heap.size w1).alloc (Nat.le_refl _) _).trans (hb2.mono (by simp)) |>.mono hb1.size)) | (go_at_call 7; refine (HA.out _ hb2').mono ?_; rintro e w3 ⟨rfl, hb3⟩))
  have hb2s : w1.heap.size ≤ w2.heap.size := Nat.le_trans (by simp) hb2.size
  have T1 : Hid (Tab w3 g marksL) := Lib.hid ((HT1.out.below (((Below.refl w1.heap.size w1).alloc (Nat.le_refl _) _).trans (hb2.mono (by simp))) HT1.out.1).below hb3 (Nat.lt_of_lt_of_le HT1.out.1 hb2s))
  have T2 : Hid (Tab w3 (w1.heap.size + 1) marksL) := Lib.hid (by
    have h := HT2.out
    rw [World.size_alloc] at h
    exact h.below hb3 h.1)
  have HB3 : Hid (Below w.heap.size w w3) := Lib.hid (hb2'.trans (hb3.mono hb2'.size))
  clear hb1 hb2 hb2' hb3 HT1 HT2 HA hb2s
  generalize w1.heap.size + 1 = g2 at *
  go_loopw [9] (fun i wr => ∃ k : Nat, k ≤ 19 ∧ i = .int .i64 k ∧ Hid (Below w3.heap.size w3 wr)) (fun i _ => 19 - (intOf i).toNat)
  case atStart => exact ⟨0, Nat.zero_le _, rfl, Lib.hid (Below.refl _ _)⟩
  case round =>
    obtain ⟨k, hk, rfl, hB⟩ := hrel
    by_cases hlt : k < 19
    · obtain ⟨c1, c2⟩ := (T1.out.below hB.out T1.out.1).2 k hlt
      obtain ⟨d1, d2⟩ := (T2.out.below hB.out T2.out.1).2 k hlt
      generalize (marksL[k]?.getD (0, 0)).1 = lo at *
      generalize (marksL[k]?.getD (0, 0)).2 = hi' at *
      have d1' : wr.cell? ⟨g2, 2 * k, none⟩ = some (.int .i32 lo) := by rw [Nat.mul_comm]; exact d1
      have d2' : wr.cell? ⟨g2, 2 * k + 1, none⟩ = some (.int .i32 hi') := by rw [Nat.mul_comm]; exact d2
      have s1 : IntKind.i64.wrap (2 * (k : Int)) = 2 * (k : Int) := IntWalk.i64_in _ (by omega)
      have s2 : (2 * (k : Int)).toNat = 2 * k := by omega
      have s3 : IntKind.i64.wrap (2 * (k : Int) + 1) = 2 * (k : Int) + 1 := IntWalk.i64_in _ (by omega)
      have s4 : (2 * (k : Int) + 1).toNat = 2 * k + 1 := by omega
      have s5 : (k : Int) < 19 := by omega
      have s6 : 2 * (k : Int) < 38 := by omega
      have s7 : 2 * (k : Int) + 1 < 38 := by omega
      have s8 : (0 : Int) ≤ 2 * (k : Int) := by omega
      have s9 : (0 : Int) ≤ 2 * (k : Int) + 1 := by omega
      go_wp2
      go_quiet (fail)
      clear s1 s2 s3 s4 s5 s6 s7 s8 s9 c1 c2 d1 d2 d1' d2'
      go_wp2
      go_roundw
      case rel => exact ⟨k + 1, hlt, by go_num, Lib.hid (below_drewN' hB.out _)⟩
      case measure => simp [intOf]; omega
    · obtain rfl : k = 19 := by omega
      obtain ⟨j, hj⟩ := Int.eq_ofNat_of_zero_le (Int.emod_nonneg i (show (19 : Int) ≠ 0 by decide))
      have hj19 : j < 19 := by have := Int.emod_lt_of_pos i (show (0 : Int) < 19 by decide); omega
      obtain ⟨c1, c2⟩ := (T1.out.below hB.out T1.out.1).2 j hj19
      have hm : marksL[j]?.getD (0, 0) ∈ marksL := by rw [List.getElem?_eq_getElem (show j < marksL.length from hj19)]; exact List.getElem_mem _
      have HZ : Hid ((marksL[j]?.getD (0, 0)).1 ≤ r → r ≤ (marksL[j]?.getD (0, 0)).2 → ofZ r = 0) := Lib.hid (ofZ_marks hm)
      clear hm
      generalize (marksL[j]?.getD (0, 0)).1 = lo at *
      generalize (marksL[j]?.getD (0, 0)).2 = hi' at *
      have HBW : Hid (Below w.heap.size w (wr.alloc (.cells #[.int .i32 lo, .int .i32 hi'] 27))) := Lib.hid ((HB3.out.trans (hB.out.mono HB3.out.size)).alloc (Nat.le_trans HB3.out.size hB.out.size) _)
      have hji : (j : Int) < 19 := by omega
      by_cases h1 : r < lo
      · go_wp2
        go_ret
        exact ⟨rfl, HBW.out⟩
      · by_cases h2 : hi' < r
        · go_wp2
          go_ret
          exact ⟨rfl, HBW.out⟩
        · have hz := HZ.out (by omega) (by omega)
          have ho := HO.out _ HBW.out
          rw [hz] at ho
          clear hz HZ
          go_wp2_with (go_at_call 8; refine ho.mono ?_; rintro e w5 ⟨rfl, hb5⟩)
          go_ret
          exact ⟨rfl, HBW.out.trans (hb5.mono HBW.out.size)⟩

set_option maxHeartbeats 1000000 in
theorem law2 (i r : Int) (hi0 : 0 ≤ i) (hi1 : i ≤ 255) (w : World) (hT : WT w) :
    Calls Tryd.prog 3 #[.int .i64 2, .int .u8 i, .int .i32 r] w fun e w' => e = .returned (.bool true) ∧ Below w.heap.size w w' := by
  have HA : Hid (∀ W, Below w.heap.size w W → Calls Tryd.prog 7 #[] W fun e w' => e = .returned (.bool true) ∧ Below W.heap.size W w') := Lib.hid fun W hW => awake_any W (hT.below hW)
  have HO : Hid (∀ W, Below w.heap.size w W → Calls Tryd.prog 8 #[.int .i32 r] W fun e w' => e = .returned (.int .i64 (ofZ r)) ∧ Below W.heap.size W w') := Lib.hid fun W hW => widthOf_any r W (hT.below hW)
  have h0 := ranges2 w hT.2
  clear hT
  go_enter Tryd.func3, Tryd.ntmps3
  go_wp2_with (first | (go_at_call 4; refine h0.mono ?_; clear h0; rintro e w1 ⟨v, rfl, ho, hb1⟩; obtain ⟨g, c, rfl⟩ := ownsRow_succ' (show 0 < widesL.length by decide) ho; have HT1 := Lib.hid (own_tab ho); clear ho; rw [show widesL.length = 22 from rfl]) | (go_at_call 6; refine (widesFn_any _).mono ?_; rintro e w2 ⟨rfl, ht2, hb2⟩; have HT2 := Lib.hid ht2; clear ht2; have hb2' := hb1.trans (((Below.refl w1.heap.size w1).alloc (Nat.le_refl _) _).trans (hb2.mono (by simp)) |>.mono hb1.size)) | (go_at_call 7; refine (HA.out _ hb2').mono ?_; rintro e w3 ⟨rfl, hb3⟩))
  have hb2s : w1.heap.size ≤ w2.heap.size := Nat.le_trans (by simp) hb2.size
  have T1 : Hid (Tab w3 g widesL) := Lib.hid ((HT1.out.below (((Below.refl w1.heap.size w1).alloc (Nat.le_refl _) _).trans (hb2.mono (by simp))) HT1.out.1).below hb3 (Nat.lt_of_lt_of_le HT1.out.1 hb2s))
  have T2 : Hid (Tab w3 (w1.heap.size + 1) widesL) := Lib.hid (by
    have h := HT2.out
    rw [World.size_alloc] at h
    exact h.below hb3 h.1)
  have HB3 : Hid (Below w.heap.size w w3) := Lib.hid (hb2'.trans (hb3.mono hb2'.size))
  clear hb1 hb2 hb2' hb3 HT1 HT2 HA hb2s
  generalize w1.heap.size + 1 = g2 at *
  go_loopw [9] (fun i wr => ∃ k : Nat, k ≤ 22 ∧ i = .int .i64 k ∧ Hid (Below w3.heap.size w3 wr)) (fun i _ => 22 - (intOf i).toNat)
  case atStart => exact ⟨0, Nat.zero_le _, rfl, Lib.hid (Below.refl _ _)⟩
  case round =>
    obtain ⟨k, hk, rfl, hB⟩ := hrel
    by_cases hlt : k < 22
    · obtain ⟨c1, c2⟩ := (T1.out.below hB.out T1.out.1).2 k hlt
      obtain ⟨d1, d2⟩ := (T2.out.below hB.out T2.out.1).2 k hlt
      generalize (widesL[k]?.getD (0, 0)).1 = lo at *
      generalize (widesL[k]?.getD (0, 0)).2 = hi' at *
      have d1' : wr.cell? ⟨g2, 2 * k, none⟩ = some (.int .i32 lo) := by rw [Nat.mul_comm]; exact d1
      have d2' : wr.cell? ⟨g2, 2 * k + 1, none⟩ = some (.int .i32 hi') := by rw [Nat.mul_comm]; exact d2
      have s1 : IntKind.i64.wrap (2 * (k : Int)) = 2 * (k : Int) := IntWalk.i64_in _ (by omega)
      have s2 : (2 * (k : Int)).toNat = 2 * k := by omega
      have s3 : IntKind.i64.wrap (2 * (k : Int) + 1) = 2 * (k : Int) + 1 := IntWalk.i64_in _ (by omega)
      have s4 : (2 * (k : Int) + 1).toNat = 2 * k + 1 := by omega
      have s5 : (k : Int) < 22 := by omega
      have s6 : 2 * (k : Int) < 44 := by omega
      have s7 : 2 * (k : Int) + 1 < 44 := by omega
      have s8 : (0 : Int) ≤ 2 * (k : Int) := by omega
      have s9 : (0 : Int) ≤ 2 * (k : Int) + 1 := by omega
      go_wp2
      go_quiet (fail)
      clear s1 s2 s3 s4 s5 s6 s7 s8 s9 c1 c2 d1 d2 d1' d2'
      go_wp2
      go_roundw
      case rel => exact ⟨k + 1, hlt, by go_num, Lib.hid (below_drewN' hB.out _)⟩
      case measure => simp [intOf]; omega
    · obtain rfl : k = 22 := by omega
      obtain ⟨j, hj⟩ := Int.eq_ofNat_of_zero_le (Int.emod_nonneg i (show (22 : Int) ≠ 0 by decide))
      have hj22 : j < 22 := by have := Int.emod_lt_of_pos i (show (0 : Int) < 22 by decide); omega
      obtain ⟨c1, c2⟩ := (T1.out.below hB.out T1.out.1).2 j hj22
      have hm : widesL[j]?.getD (0, 0) ∈ widesL := by rw [List.getElem?_eq_getElem (show j < widesL.length from hj22)]; exact List.getElem_mem _
      have HZ : Hid ((widesL[j]?.getD (0, 0)).1 ≤ r → r ≤ (widesL[j]?.getD (0, 0)).2 → ofZ r = 2) := Lib.hid (ofZ_wides hm)
      clear hm
      generalize (widesL[j]?.getD (0, 0)).1 = lo at *
      generalize (widesL[j]?.getD (0, 0)).2 = hi' at *
      have HBW : Hid (Below w.heap.size w (wr.alloc (.cells #[.int .i32 lo, .int .i32 hi'] 27))) := Lib.hid ((HB3.out.trans (hB.out.mono HB3.out.size)).alloc (Nat.le_trans HB3.out.size hB.out.size) _)
      have hji : (j : Int) < 22 := by omega
      by_cases h1 : r < lo
      · go_wp2
        go_ret
        exact ⟨rfl, HBW.out⟩
      · by_cases h2 : hi' < r
        · go_wp2
          go_ret
          exact ⟨rfl, HBW.out⟩
        · have hz := HZ.out (by omega) (by omega)
          have ho := HO.out _ HBW.out
          rw [hz] at ho
          clear hz HZ
          go_wp2_with (go_at_call 8; refine ho.mono ?_; rintro e w5 ⟨rfl, hb5⟩)
          go_ret
          exact ⟨rfl, HBW.out.trans (hb5.mono HBW.out.size)⟩

set_option maxHeartbeats 1000000 in
theorem lawX (k i r : Int) (h0 : ¬ k = 0) (h2 : ¬ k = 2) (w : World) (hT : WT w) :
    Calls Tryd.prog 3 #[.int .i64 k, .int .u8 i, .int .i32 r] w fun e w' => e = .returned (.bool true) ∧ Below w.heap.size w w' := by
  have HA : Hid (∀ W, Below w.heap.size w W → Calls Tryd.prog 7 #[] W fun e w' => e = .returned (.bool true) ∧ Below W.heap.size W w') := Lib.hid fun W hW => awake_any W (hT.below hW)
  have hr := rangesX k w h0 h2
  have e0 : (k == 0) = false := by simpa using h0
  have e2 : (k == 2) = false := by simpa using h2
  clear hT h0 h2
  go_enter Tryd.func3, Tryd.ntmps3
  go_wp2_with (first | (go_at_call 4; refine hr.mono ?_; clear hr; rintro e w1 ⟨rfl, rfl⟩) | (go_at_call 7; refine (HA.out _ ((Below.refl _ _).alloc (Nat.le_refl _) _)).mono ?_; rintro e w3 ⟨rfl, hb3⟩))
  have HB : Hid (Below w.heap.size w w3) := Lib.hid (((Below.refl w.heap.size w).alloc (Nat.le_refl _) _).trans (hb3.mono (by simp)))
  clear hb3
  go_loopw [9] (fun i wr => i = .int .i64 0 ∧ wr = w3) (fun _ _ => 0)
  case atStart => exact ⟨rfl, rfl⟩
  case round =>
    obtain ⟨rfl, rfl⟩ := hrel
    go_wp2
    go_ret
    exact ⟨rfl, HB.out⟩

theorem widthRanges_law (k i r : Int) (hi0 : 0 ≤ i) (hi1 : i ≤ 255) (w : World) (hT : WT w) :
    Calls Tryd.prog 3 #[.int .i64 k, .int .u8 i, .int .i32 r] w fun e w' => e = .returned (.bool true) ∧ Below w.heap.size w w' := by
  by_cases h0 : k = 0
  · subst h0; exact law0 i r hi0 hi1 w hT
  · by_cases h2 : k = 2
    · subst h2; exact law2 i r hi0 hi1 w hT
    · exact lawX k i r h0 h2 w hT

end Go.Proofs.YtacmldggdacdpabDoor
