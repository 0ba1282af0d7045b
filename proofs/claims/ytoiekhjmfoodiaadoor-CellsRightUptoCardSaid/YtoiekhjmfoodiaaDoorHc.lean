/- The walks of the reference's Scalar and Put. -/
import Derived.Test.YtoiekhjmfoodiaaDoorHb
import Derived.Laws.IdiomStrings
import Derived.Deep.RegionHeld3
import Derived.Deep.RegionWith
namespace Go.Proofs.YtoiekhjmfoodiaaDoor
open Go.RowKit

set_option maxHeartbeats 400000 in
set_option maxRecDepth 100000 in
theorem scalar_any (r : Int) (w : World) :
    Calls Tryd.prog 62 #[.int .i32 r] w fun e w' => e = .returned (.bool (scalarB r)) ∧ w = w' := by
  have hs : scalarB r = decide ((0 ≤ r ∧ r < 55296) ∨ (57343 < r ∧ r ≤ 1114111)) := rfl
  rcases (by omega : r < 0 ∨ (0 ≤ r ∧ r < 55296) ∨ (55296 ≤ r ∧ r ≤ 57343) ∨ (57343 < r ∧ r ≤ 1114111) ∨ 1114111 < r) with h | ⟨h, h'⟩ | ⟨h, h'⟩ | ⟨h, h'⟩ | h
  · rw [decide_eq_false (by omega)] at hs
    rw [hs]; clear hs
    go_enter Tryd.func62, Tryd.ntmps62
    go_wp2
    go_ret
    exact ⟨rfl, rfl⟩
  · rw [decide_eq_true (by omega)] at hs
    rw [hs]; clear hs
    go_enter Tryd.func62, Tryd.ntmps62
    go_wp2
    go_ret
    exact ⟨rfl, rfl⟩
  · rw [decide_eq_false (by omega)] at hs
    have h0 : 0 ≤ r := by omega
    rw [hs]; clear hs
    go_enter Tryd.func62, Tryd.ntmps62
    go_wp2
    go_ret
    exact ⟨congrArg (fun b => Ending.returned (.bool b)) (by simp; omega), rfl⟩
  · rw [decide_eq_true (by omega)] at hs
    have h0 : 0 ≤ r := by omega
    have h1 : 55296 ≤ r := by omega
    rw [hs]; clear hs
    go_enter Tryd.func62, Tryd.ntmps62
    go_wp2
    go_ret
    exact ⟨rfl, rfl⟩
  · rw [decide_eq_false (by omega)] at hs
    have h0 : 0 ≤ r := by omega
    have h1 : 55296 ≤ r := by omega
    have h2 : 57343 < r := by omega
    rw [hs]; clear hs
    go_enter Tryd.func62, Tryd.ntmps62
    go_wp2
    go_ret
    exact ⟨congrArg (fun b => Ending.returned (.bool b)) (by simp; omega), rfl⟩

/-- The n bytes of a number. -/
def putN : Nat → Int → List Nat
  | 2, r => [192 + (r / 64).toNat, 128 + (r % 64).toNat]
  | 3, r => [224 + (r / 64 / 64).toNat, 128 + (r / 64 % 64).toNat, 128 + (r % 64).toNat]
  | 4, r => [240 + (r / 64 / 64 / 64).toNat, 128 + (r / 64 / 64 % 64).toNat, 128 + (r / 64 % 64).toNat, 128 + (r % 64).toNat]
  | _, r => [r.toNat]

set_option maxRecDepth 100000 in
set_option maxHeartbeats 1000000 in
theorem refput_1 (r : Int) (h0 : 0 ≤ r) (h1 : r < 128) (hs : scalarB r = true) (w : World) :
    Calls Tryd.prog 34 #[.int .i32 r] w fun e w' => ∃ A c, e = .returned (.slice A 1 c) ∧ BS w' w'.heap.size A (putN 1 r) ∧ Below w.heap.size w w' := by
  have hv := scalar_any r
  rw [hs] at hv
  clear hs
  go_enter Tryd.func34, Tryd.ntmps34
  go_wp2_with (go_at_call 62; refine (hv _).mono ?_; clear hv; rintro e w1 ⟨rfl, rfl⟩)
  have hA : Below w.heap.size w (w.alloc (.cells #[.int .i32 127, .int .i32 2047, .int .i32 65535] 21)) := (Below.refl _ _).alloc (Nat.le_refl _) _
  have HA := Lib.hid hA
  clear hA
  go_loopw [3, 13] (fun n i wr => wr = w.alloc (.cells #[.int .i32 127, .int .i32 2047, .int .i32 65535] 21) ∧ ((n = .int .i64 1 ∧ i = .int .i64 0) ∨ (n = .int .i64 1 ∧ i = .int .i64 1) ∨ (n = .int .i64 1 ∧ i = .int .i64 2) ∨ (n = .int .i64 1 ∧ i = .int .i64 3))) (fun _ i _ => 3 - (intOf i).toNat)
  case atStart => exact ⟨rfl, .inl ⟨rfl, rfl⟩⟩
  case round =>
    obtain ⟨rfl, ⟨rfl, rfl⟩ | ⟨rfl, rfl⟩ | ⟨rfl, rfl⟩ | ⟨rfl, rfl⟩⟩ := hrel
    · go_wp2
      go_roundw
      case rel => exact ⟨trivial, .inr (.inl ⟨rfl, rfl⟩)⟩
      case measure => simp [intOf]
    · go_wp2
      go_roundw
      case rel => exact ⟨trivial, .inr (.inr (.inl ⟨rfl, rfl⟩))⟩
      case measure => simp [intOf]
    · go_wp2
      go_roundw
      case rel => exact ⟨trivial, .inr (.inr (.inr (⟨rfl, rfl⟩)))⟩
      case measure => simp [intOf]
    · go_wp2
      go_ret
      have hr : Value.int .u8 r = Value.int .u8 (r.toNat : Nat) := by rw [Int.toNat_of_nonneg h0]
      refine ⟨_, _, rfl, ?_, HA.out.alloc HA.out.size _⟩
      rw [hr]
      have hb := bs_new (w.alloc (.cells #[.int .i32 127, .int .i32 2047, .int .i32 65535] 21)) [r.toNat] (by simp; omega)
      rw [show (w.alloc (.cells #[.int .i32 127, .int .i32 2047, .int .i32 65535] 21)).heap.size = w.heap.size + 1 from by simp] at hb
      exact hb

set_option maxRecDepth 100000 in
set_option maxHeartbeats 1000000 in
theorem refput_2 (r : Int) (h0 : 128 ≤ r) (h1 : r < 2048) (hs : scalarB r = true) (w : World) :
    Calls Tryd.prog 34 #[.int .i32 r] w fun e w' => ∃ A c, e = .returned (.slice A 2 c) ∧ BS w' w'.heap.size A (putN 2 r) ∧ Below w.heap.size w w' := by
  have hv := scalar_any r
  rw [hs] at hv
  clear hs
  have g0 : (127 : Int) < r := by omega
  have hmk : ∀ W, (Instr.makeSlice 54 (.int .i64 2) (.int .i64 2)).run Tryd.prog W = .ok (.slice (some ⟨W.heap.size, 0, none⟩) 2 2) (W.alloc (.cells #[.int .u8 0, .int .u8 0] 5)) := fun _ => by kernel_rfl
  go_enter Tryd.func34, Tryd.ntmps34
  go_wp2_with (go_at_call 62; refine (hv _).mono ?_; clear hv; rintro e w1 ⟨rfl, rfl⟩)
  have hA : Below w.heap.size w (w.alloc (.cells #[.int .i32 127, .int .i32 2047, .int .i32 65535] 21)) := (Below.refl _ _).alloc (Nat.le_refl _) _
  have HA := Lib.hid hA
  clear hA
  go_loopw [3, 13] (fun n i wr => wr = w.alloc (.cells #[.int .i32 127, .int .i32 2047, .int .i32 65535] 21) ∧ ((n = .int .i64 1 ∧ i = .int .i64 0) ∨ (n = .int .i64 2 ∧ i = .int .i64 1) ∨ (n = .int .i64 2 ∧ i = .int .i64 2) ∨ (n = .int .i64 2 ∧ i = .int .i64 3))) (fun _ i _ => 3 - (intOf i).toNat)
  case atStart => exact ⟨rfl, .inl ⟨rfl, rfl⟩⟩
  case round =>
    obtain ⟨rfl, ⟨rfl, rfl⟩ | ⟨rfl, rfl⟩ | ⟨rfl, rfl⟩ | ⟨rfl, rfl⟩⟩ := hrel
    · go_wp2
      go_roundw
      case rel => exact ⟨trivial, .inr (.inl ⟨rfl, rfl⟩)⟩
      case measure => simp [intOf]
    · go_wp2
      go_roundw
      case rel => exact ⟨trivial, .inr (.inr (.inl ⟨rfl, rfl⟩))⟩
      case measure => simp [intOf]
    · go_wp2
      go_roundw
      case rel => exact ⟨trivial, .inr (.inr (.inr (⟨rfl, rfl⟩)))⟩
      case measure => simp [intOf]
    · go_wp2
      go_loopw [0, 7] (fun x i wr => (x = .int .i32 (r) ∧ i = .int .i64 1 ∧ wr = (w.alloc (.cells #[.int .i32 127, .int .i32 2047, .int .i32 65535] 21)).alloc (.cells #[.int .u8 0, .int .u8 0] 5)) ∨ (x = .int .i32 (r / 64) ∧ i = .int .i64 0 ∧ wr = (w.alloc (.cells #[.int .i32 127, .int .i32 2047, .int .i32 65535] 21)).alloc (.cells #[.int .u8 0, .int .u8 (128 + r % 64)] 5))) (fun _ i _ => (intOf i).toNat)
      case atStart => exact .inl ⟨rfl, rfl, rfl⟩
      case round =>
        obtain ⟨rfl, rfl, rfl⟩ | ⟨rfl, rfl, rfl⟩ := hrel
        · go_wp2
          go_roundw
          case rel => exact .inr (⟨rfl, rfl, trivial⟩)
          case measure => simp [intOf]
        · go_wp2
          go_ret
          have hb := bs_new (w.alloc (.cells #[.int .i32 127, .int .i32 2047, .int .i32 65535] 21)) [192 + (r / 64).toNat, 128 + (r % 64).toNat] (by simp only [List.mem_cons, List.not_mem_nil, or_false]; omega)
          rw [show (w.alloc (.cells #[.int .i32 127, .int .i32 2047, .int .i32 65535] 21)).heap.size = w.heap.size + 1 from by simp] at hb
          have hL := HA.out.alloc HA.out.size (.cells #[.int .u8 (192 + r / 64), .int .u8 (128 + r % 64)] 5)
          have e0 : (192 + r / 64 : Int) = ((192 + (r / 64).toNat : Nat) : Int) := by omega
          have e1 : (128 + r % 64 : Int) = ((128 + (r % 64).toNat : Nat) : Int) := by omega
          rw [e0, e1] at hL ⊢
          have hB := (Below.refl _ _).alloc (Nat.le_refl ((w.alloc (.cells #[.int .i32 127, .int .i32 2047, .int .i32 65535] 21)).alloc (.cells ([192 + (r / 64).toNat, 128 + (r % 64).toNat].map fun z => Value.int .u8 (z : Nat)).toArray 5)).heap.size) (.cells #[.int .i32 0, .int .i32 0, .int .i32 192, .int .i32 224, .int .i32 240] 21)
          exact ⟨_, _, rfl, (hb.below hB).more hB.size, hL.alloc hL.size _⟩

set_option maxRecDepth 100000 in
set_option maxHeartbeats 1000000 in
theorem refput_3 (r : Int) (h0 : 2048 ≤ r) (h1 : r < 65536) (hs : scalarB r = true) (w : World) :
    Calls Tryd.prog 34 #[.int .i32 r] w fun e w' => ∃ A c, e = .returned (.slice A 3 c) ∧ BS w' w'.heap.size A (putN 3 r) ∧ Below w.heap.size w w' := by
  have hv := scalar_any r
  rw [hs] at hv
  clear hs
  have g0 : (127 : Int) < r := by omega
  have g1 : (2047 : Int) < r := by omega
  have hmk : ∀ W, (Instr.makeSlice 54 (.int .i64 3) (.int .i64 3)).run Tryd.prog W = .ok (.slice (some ⟨W.heap.size, 0, none⟩) 3 3) (W.alloc (.cells #[.int .u8 0, .int .u8 0, .int .u8 0] 5)) := fun _ => by kernel_rfl
  go_enter Tryd.func34, Tryd.ntmps34
  go_wp2_with (go_at_call 62; refine (hv _).mono ?_; clear hv; rintro e w1 ⟨rfl, rfl⟩)
  have hA : Below w.heap.size w (w.alloc (.cells #[.int .i32 127, .int .i32 2047, .int .i32 65535] 21)) := (Below.refl _ _).alloc (Nat.le_refl _) _
  have HA := Lib.hid hA
  clear hA
  go_loopw [3, 13] (fun n i wr => wr = w.alloc (.cells #[.int .i32 127, .int .i32 2047, .int .i32 65535] 21) ∧ ((n = .int .i64 1 ∧ i = .int .i64 0) ∨ (n = .int .i64 2 ∧ i = .int .i64 1) ∨ (n = .int .i64 3 ∧ i = .int .i64 2) ∨ (n = .int .i64 3 ∧ i = .int .i64 3))) (fun _ i _ => 3 - (intOf i).toNat)
  case atStart => exact ⟨rfl, .inl ⟨rfl, rfl⟩⟩
  case round =>
    obtain ⟨rfl, ⟨rfl, rfl⟩ | ⟨rfl, rfl⟩ | ⟨rfl, rfl⟩ | ⟨rfl, rfl⟩⟩ := hrel
    · go_wp2
      go_roundw
      case rel => exact ⟨trivial, .inr (.inl ⟨rfl, rfl⟩)⟩
      case measure => simp [intOf]
    · go_wp2
      go_roundw
      case rel => exact ⟨trivial, .inr (.inr (.inl ⟨rfl, rfl⟩))⟩
      case measure => simp [intOf]
    · go_wp2
      go_roundw
      case rel => exact ⟨trivial, .inr (.inr (.inr (⟨rfl, rfl⟩)))⟩
      case measure => simp [intOf]
    · go_wp2
      go_loopw [0, 7] (fun x i wr => (x = .int .i32 (r) ∧ i = .int .i64 2 ∧ wr = (w.alloc (.cells #[.int .i32 127, .int .i32 2047, .int .i32 65535] 21)).alloc (.cells #[.int .u8 0, .int .u8 0, .int .u8 0] 5)) ∨ (x = .int .i32 (r / 64) ∧ i = .int .i64 1 ∧ wr = (w.alloc (.cells #[.int .i32 127, .int .i32 2047, .int .i32 65535] 21)).alloc (.cells #[.int .u8 0, .int .u8 0, .int .u8 (128 + r % 64)] 5)) ∨ (x = .int .i32 (r / 64 / 64) ∧ i = .int .i64 0 ∧ wr = (w.alloc (.cells #[.int .i32 127, .int .i32 2047, .int .i32 65535] 21)).alloc (.cells #[.int .u8 0, .int .u8 (128 + r / 64 % 64), .int .u8 (128 + r % 64)] 5))) (fun _ i _ => (intOf i).toNat)
      case atStart => exact .inl ⟨rfl, rfl, rfl⟩
      case round =>
        obtain ⟨rfl, rfl, rfl⟩ | ⟨rfl, rfl, rfl⟩ | ⟨rfl, rfl, rfl⟩ := hrel
        · go_wp2
          go_roundw
          case rel => exact .inr (.inl ⟨rfl, rfl, trivial⟩)
          case measure => simp [intOf]
        · go_wp2
          go_roundw
          case rel => exact .inr (.inr (⟨rfl, rfl, trivial⟩))
          case measure => simp [intOf]
        · go_wp2
          go_ret
          have hb := bs_new (w.alloc (.cells #[.int .i32 127, .int .i32 2047, .int .i32 65535] 21)) [224 + (r / 64 / 64).toNat, 128 + (r / 64 % 64).toNat, 128 + (r % 64).toNat] (by simp only [List.mem_cons, List.not_mem_nil, or_false]; omega)
          rw [show (w.alloc (.cells #[.int .i32 127, .int .i32 2047, .int .i32 65535] 21)).heap.size = w.heap.size + 1 from by simp] at hb
          have hL := HA.out.alloc HA.out.size (.cells #[.int .u8 (224 + r / 64 / 64), .int .u8 (128 + r / 64 % 64), .int .u8 (128 + r % 64)] 5)
          have e0 : (224 + r / 64 / 64 : Int) = ((224 + (r / 64 / 64).toNat : Nat) : Int) := by omega
          have e1 : (128 + r / 64 % 64 : Int) = ((128 + (r / 64 % 64).toNat : Nat) : Int) := by omega
          have e2 : (128 + r % 64 : Int) = ((128 + (r % 64).toNat : Nat) : Int) := by omega
          rw [e0, e1, e2] at hL ⊢
          have hB := (Below.refl _ _).alloc (Nat.le_refl ((w.alloc (.cells #[.int .i32 127, .int .i32 2047, .int .i32 65535] 21)).alloc (.cells ([224 + (r / 64 / 64).toNat, 128 + (r / 64 % 64).toNat, 128 + (r % 64).toNat].map fun z => Value.int .u8 (z : Nat)).toArray 5)).heap.size) (.cells #[.int .i32 0, .int .i32 0, .int .i32 192, .int .i32 224, .int .i32 240] 21)
          exact ⟨_, _, rfl, (hb.below hB).more hB.size, hL.alloc hL.size _⟩

set_option maxRecDepth 100000 in
set_option maxHeartbeats 1000000 in
theorem refput_4 (r : Int) (h0 : 65536 ≤ r) (h1 : r < 1114112) (hs : scalarB r = true) (w : World) :
    Calls Tryd.prog 34 #[.int .i32 r] w fun e w' => ∃ A c, e = .returned (.slice A 4 c) ∧ BS w' w'.heap.size A (putN 4 r) ∧ Below w.heap.size w w' := by
  have hv := scalar_any r
  rw [hs] at hv
  clear hs
  have g0 : (127 : Int) < r := by omega
  have g1 : (2047 : Int) < r := by omega
  have g2 : (65535 : Int) < r := by omega
  have hmk : ∀ W, (Instr.makeSlice 54 (.int .i64 4) (.int .i64 4)).run Tryd.prog W = .ok (.slice (some ⟨W.heap.size, 0, none⟩) 4 4) (W.alloc (.cells #[.int .u8 0, .int .u8 0, .int .u8 0, .int .u8 0] 5)) := fun _ => by kernel_rfl
  go_enter Tryd.func34, Tryd.ntmps34
  go_wp2_with (go_at_call 62; refine (hv _).mono ?_; clear hv; rintro e w1 ⟨rfl, rfl⟩)
  have hA : Below w.heap.size w (w.alloc (.cells #[.int .i32 127, .int .i32 2047, .int .i32 65535] 21)) := (Below.refl _ _).alloc (Nat.le_refl _) _
  have HA := Lib.hid hA
  clear hA
  go_loopw [3, 13] (fun n i wr => wr = w.alloc (.cells #[.int .i32 127, .int .i32 2047, .int .i32 65535] 21) ∧ ((n = .int .i64 1 ∧ i = .int .i64 0) ∨ (n = .int .i64 2 ∧ i = .int .i64 1) ∨ (n = .int .i64 3 ∧ i = .int .i64 2) ∨ (n = .int .i64 4 ∧ i = .int .i64 3))) (fun _ i _ => 3 - (intOf i).toNat)
  case atStart => exact ⟨rfl, .inl ⟨rfl, rfl⟩⟩
  case round =>
    obtain ⟨rfl, ⟨rfl, rfl⟩ | ⟨rfl, rfl⟩ | ⟨rfl, rfl⟩ | ⟨rfl, rfl⟩⟩ := hrel
    · go_wp2
      go_roundw
      case rel => exact ⟨trivial, .inr (.inl ⟨rfl, rfl⟩)⟩
      case measure => simp [intOf]
    · go_wp2
      go_roundw
      case rel => exact ⟨trivial, .inr (.inr (.inl ⟨rfl, rfl⟩))⟩
      case measure => simp [intOf]
    · go_wp2
      go_roundw
      case rel => exact ⟨trivial, .inr (.inr (.inr (⟨rfl, rfl⟩)))⟩
      case measure => simp [intOf]
    · go_wp2
      go_loopw [0, 7] (fun x i wr => (x = .int .i32 (r) ∧ i = .int .i64 3 ∧ wr = (w.alloc (.cells #[.int .i32 127, .int .i32 2047, .int .i32 65535] 21)).alloc (.cells #[.int .u8 0, .int .u8 0, .int .u8 0, .int .u8 0] 5)) ∨ (x = .int .i32 (r / 64) ∧ i = .int .i64 2 ∧ wr = (w.alloc (.cells #[.int .i32 127, .int .i32 2047, .int .i32 65535] 21)).alloc (.cells #[.int .u8 0, .int .u8 0, .int .u8 0, .int .u8 (128 + r % 64)] 5)) ∨ (x = .int .i32 (r / 64 / 64) ∧ i = .int .i64 1 ∧ wr = (w.alloc (.cells #[.int .i32 127, .int .i32 2047, .int .i32 65535] 21)).alloc (.cells #[.int .u8 0, .int .u8 0, .int .u8 (128 + r / 64 % 64), .int .u8 (128 + r % 64)] 5)) ∨ (x = .int .i32 (r / 64 / 64 / 64) ∧ i = .int .i64 0 ∧ wr = (w.alloc (.cells #[.int .i32 127, .int .i32 2047, .int .i32 65535] 21)).alloc (.cells #[.int .u8 0, .int .u8 (128 + r / 64 / 64 % 64), .int .u8 (128 + r / 64 % 64), .int .u8 (128 + r % 64)] 5))) (fun _ i _ => (intOf i).toNat)
      case atStart => exact .inl ⟨rfl, rfl, rfl⟩
      case round =>
        obtain ⟨rfl, rfl, rfl⟩ | ⟨rfl, rfl, rfl⟩ | ⟨rfl, rfl, rfl⟩ | ⟨rfl, rfl, rfl⟩ := hrel
        · go_wp2
          go_roundw
          case rel => exact .inr (.inl ⟨rfl, rfl, trivial⟩)
          case measure => simp [intOf]
        · go_wp2
          go_roundw
          case rel => exact .inr (.inr (.inl ⟨rfl, rfl, trivial⟩))
          case measure => simp [intOf]
        · go_wp2
          go_roundw
          case rel => exact .inr (.inr (.inr (⟨rfl, rfl, trivial⟩)))
          case measure => simp [intOf]
        · go_wp2
          go_ret
          have hb := bs_new (w.alloc (.cells #[.int .i32 127, .int .i32 2047, .int .i32 65535] 21)) [240 + (r / 64 / 64 / 64).toNat, 128 + (r / 64 / 64 % 64).toNat, 128 + (r / 64 % 64).toNat, 128 + (r % 64).toNat] (by simp only [List.mem_cons, List.not_mem_nil, or_false]; omega)
          rw [show (w.alloc (.cells #[.int .i32 127, .int .i32 2047, .int .i32 65535] 21)).heap.size = w.heap.size + 1 from by simp] at hb
          have hL := HA.out.alloc HA.out.size (.cells #[.int .u8 (240 + r / 64 / 64 / 64), .int .u8 (128 + r / 64 / 64 % 64), .int .u8 (128 + r / 64 % 64), .int .u8 (128 + r % 64)] 5)
          have e0 : (240 + r / 64 / 64 / 64 : Int) = ((240 + (r / 64 / 64 / 64).toNat : Nat) : Int) := by omega
          have e1 : (128 + r / 64 / 64 % 64 : Int) = ((128 + (r / 64 / 64 % 64).toNat : Nat) : Int) := by omega
          have e2 : (128 + r / 64 % 64 : Int) = ((128 + (r / 64 % 64).toNat : Nat) : Int) := by omega
          have e3 : (128 + r % 64 : Int) = ((128 + (r % 64).toNat : Nat) : Int) := by omega
          rw [e0, e1, e2, e3] at hL ⊢
          have hB := (Below.refl _ _).alloc (Nat.le_refl ((w.alloc (.cells #[.int .i32 127, .int .i32 2047, .int .i32 65535] 21)).alloc (.cells ([240 + (r / 64 / 64 / 64).toNat, 128 + (r / 64 / 64 % 64).toNat, 128 + (r / 64 % 64).toNat, 128 + (r % 64).toNat].map fun z => Value.int .u8 (z : Nat)).toArray 5)).heap.size) (.cells #[.int .i32 0, .int .i32 0, .int .i32 192, .int .i32 224, .int .i32 240] 21)
          exact ⟨_, _, rfl, (hb.below hB).more hB.size, hL.alloc hL.size _⟩

end Go.Proofs.YtoiekhjmfoodiaaDoor

namespace Go.Proofs.YtoiekhjmfoodiaaDoor
open Go.RowKit

/-- A scalar's bytes. -/
def putL (r : Int) : List Nat := if scalarB r = true then (if r < 128 then putN 1 r else if r < 2048 then putN 2 r else if r < 65536 then putN 3 r else putN 4 r) else []

set_option maxRecDepth 100000 in
theorem scalarB_bd {r : Int} (h : scalarB r = true) : 0 ≤ r ∧ r ≤ 1114111 := by
  have := of_decide_eq_true h
  omega

set_option maxRecDepth 100000 in
theorem refput_no (r : Int) (hs : scalarB r = false) (w : World) :
    Calls Tryd.prog 34 #[.int .i32 r] w fun e w' => e = .returned (.slice none 0 0) ∧ w = w' := by
  have hv := scalar_any r
  rw [hs] at hv
  clear hs
  go_enter Tryd.func34, Tryd.ntmps34
  go_wp2_with (go_at_call 62; refine (hv _).mono ?_; clear hv; rintro e w1 ⟨rfl, rfl⟩)
  go_ret
  exact ⟨rfl, rfl⟩

set_option maxRecDepth 100000 in
theorem refput_any (r : Int) (w : World) :
    Calls Tryd.prog 34 #[.int .i32 r] w fun e w' => ∃ A c, e = .returned (.slice A (putL r).length c) ∧ BS w' w'.heap.size A (putL r) ∧ Below w.heap.size w w' := by
  by_cases hs : scalarB r = true
  · obtain ⟨h0, h1⟩ := scalarB_bd hs
    unfold putL
    rw [if_pos hs]
    by_cases a : r < 128
    · rw [if_pos a]
      exact refput_1 r h0 a hs w
    rw [if_neg a]
    by_cases b : r < 2048
    · rw [if_pos b]
      exact refput_2 r (by omega) b hs w
    rw [if_neg b]
    by_cases c : r < 65536
    · rw [if_pos c]
      exact refput_3 r (by omega) c hs w
    rw [if_neg c]
    exact refput_4 r (by omega) (by omega) hs w
  · have hs' : scalarB r = false := by simpa using hs
    refine (refput_no r hs' w).mono ?_
    rintro e w' ⟨rfl, rfl⟩
    have e0 : putL r = [] := by unfold putL; rw [if_neg hs]
    rw [e0]
    exact ⟨none, 0, rfl, ⟨by simp, by simp⟩, Below.refl _ _⟩

/-- Bytes as a text. -/
def strL (zs : List Nat) : ByteArray := ⟨(zs.map UInt8.ofNat).toArray⟩
set_option maxRecDepth 100000 in
theorem strL_inj {zs ys : List Nat} (hz : ∀ z ∈ zs, z < 256) (hy : ∀ y ∈ ys, y < 256) (h : strL zs = strL ys) : zs = ys := by
  have h2 : zs.map UInt8.ofNat = ys.map UInt8.ofNat := by
    have := congrArg (fun b => b.data.toList) h
    simpa [strL] using this
  have back : ∀ l : List Nat, (∀ z ∈ l, z < 256) → (l.map UInt8.ofNat).map UInt8.toNat = l := fun l hl => by
    rw [List.map_map]
    refine (List.map_congr_left (g := id) fun z hz => ?_).trans (List.map_id _)
    have := hl z hz
    simp [UInt8.toNat_ofNat']
    omega
  rw [← back zs hz, ← back ys hy, h2]
set_option maxRecDepth 100000 in
theorem conv_str {w : World} {B : Nat} {A : Option Addr} {zs : List Nat} (n c : Nat) (hn : n = zs.length) (hR : BS w B A zs) :
    (Go.convert 54 9 (.slice A n c)).run Tryd.prog w = .ok (.string (strL zs)) w := by
  have back : ∀ (b off : Nat), (∀ k, k < zs.length → w.cell? ⟨b, off + k, none⟩ = some (.int .u8 (zs[k]?.getD 0))) → (Go.convert 54 9 (.slice (some ⟨b, off, none⟩) n c)).run Tryd.prog w = .ok (.string (strL zs)) w := fun b off hc => by
    have hl : (zs.map UInt8.ofNat).length = n := by rw [List.length_map]; exact hn.symm
    have := run_convert_bytes_back (P := Tryd.prog) w 54 9 5 ⟨b, off, none⟩ c (zs.map UInt8.ofNat) (by kernel_rfl) (by kernel_rfl) (by kernel_rfl) (fun j hj => by
      have hj' : j < zs.length := by simpa using hj
      have ea : (⟨b, off, none⟩ : Addr).add j = ⟨b, off + j, none⟩ := by simp [Addr.add]
      rw [ea, hc j hj']
      have hz : zs[j] < 256 := hR.1 _ (List.getElem_mem hj')
      simp [hj', Nat.mod_eq_of_lt hz])
    rw [hl] at this
    exact this
  by_cases hz : zs = []
  · subst hz
    simp at hn
    subst hn
    rcases A with _ | ⟨b, off, _ | p⟩
    · rw [run_convert_bytes_string w _ _ 5 none 0 c (by kernel_rfl) (by kernel_rfl) (by kernel_rfl)]
      rfl
    · exact back b off (fun k hk => by simp at hk)
    · rw [run_convert_bytes_string w _ _ 5 _ 0 c (by kernel_rfl) (by kernel_rfl) (by kernel_rfl)]
      rfl
  · obtain ⟨b, off, rfl, _, hc⟩ := hR.2 hz
    exact back b off hc

set_option maxRecDepth 100000 in
theorem putL_lt (r : Int) : ∀ z ∈ putL r, z < 256 := by
  unfold putL
  by_cases hs : scalarB r = true
  · obtain ⟨h0, h1⟩ := scalarB_bd hs
    rw [if_pos hs]
    split
    · intro z hz; simp only [putN, List.mem_cons, List.not_mem_nil, or_false] at hz; omega
    split
    · intro z hz; simp only [putN, List.mem_cons, List.not_mem_nil, or_false] at hz; omega
    split
    · intro z hz; simp only [putN, List.mem_cons, List.not_mem_nil, or_false] at hz; omega
    · intro z hz; simp only [putN, List.mem_cons, List.not_mem_nil, or_false] at hz; omega
  · rw [if_neg hs]; simp
set_option maxRecDepth 100000 in
theorem str_beq {zs ys : List Nat} (hz : ∀ z ∈ zs, z < 256) (hy : ∀ y ∈ ys, y < 256) : ((strL zs).toList == (strL ys).toList) = decide (zs = ys) := by
  rw [ByteArray.toList_eq, ByteArray.toList_eq]
  by_cases h : zs = ys
  · subst h; simp
  · rw [decide_eq_false h]
    have hn : strL zs ≠ strL ys := fun e => h (strL_inj hz hy e)
    have : (strL zs).data.toList ≠ (strL ys).data.toList := fun e => hn (by
      have e2 : (strL zs).data = (strL ys).data := by
        apply Array.ext'
        exact e
      unfold strL at e2 ⊢
      exact congrArg ByteArray.mk e2)
    simpa using this

set_option maxRecDepth 100000 in
theorem hconv_next {w1 W W' : World} {n c : Nat} {A : Option Addr} {zs : List Nat} (hc : Hid (∀ W, Below w1.heap.size w1 W → (Go.convert 54 9 (.slice A n c)).run Tryd.prog W = .ok (.string (strL zs)) W))
    (hb : Below w1.heap.size w1 W) (hb' : Below W.heap.size W W') : (Go.convert 54 9 (.slice A n c)).run Tryd.prog W' = .ok (.string (strL zs)) W' ∧ Below w1.heap.size w1 W' :=
  have h := hb.trans (hb'.mono hb.size)
  ⟨hc.out _ h, h⟩

set_option maxHeartbeats 2000000 in
set_option maxRecDepth 100000 in
theorem is_aux (A : Option Addr) (zs : List Nat) (n c : Nat) (hn : n = zs.length) (z : Int) (w : World) (hR : BS w w.heap.size A zs)
    (hnum : Calls Tryd.prog 80 #[.slice A n c] w fun e w' => e = .returned (.int .i32 z) ∧ Below w.heap.size w w') :
    Calls Tryd.prog 79 #[.slice A n c] w fun e w' => e = .returned (.bool (decide (0 ≤ z) && decide (putL z = zs))) ∧ Below w.heap.size w w' := by
  have HR := Lib.hid hR
  have HN := Lib.hid hn
  clear hR hn
  by_cases hz : z < 0
  · have hz0 : ¬ 0 ≤ z := by omega
    have HD : Hid ((decide (0 ≤ z) && decide (putL z = zs)) = false) := Lib.hid (by rw [decide_eq_false (by omega)]; rfl)
    generalize (decide (0 ≤ z) && decide (putL z = zs)) = d at *
    go_enter Tryd.func79, Tryd.ntmps79
    go_wp2_with (go_at_call 80; refine hnum.mono ?_; clear hnum; rintro e w1 ⟨rfl, hB⟩)
    first | go_region_with (fail) | fail
    all_goals
      go_wp2
      go_ret
      exact ⟨by rw [HD.out]; rfl, hB.drew⟩
  · have hz' : 0 ≤ z := by omega
    have HD : Hid ((decide (0 ≤ z) && decide (putL z = zs)) = decide (putL z = zs)) := Lib.hid (by rw [decide_eq_true hz']; rfl)
    generalize (decide (0 ≤ z) && decide (putL z = zs)) = d at *
    go_enter Tryd.func79, Tryd.ntmps79
    go_wp2_with (go_at_call 80; refine hnum.mono ?_; clear hnum; rintro e w1 ⟨rfl, hB⟩)
    have hcv : ∀ W, Below w1.heap.size w1 W → (Go.convert 54 9 (.slice A n c)).run Tryd.prog W = .ok (.string (strL zs)) W := fun W hW => conv_str n c HN.out ((HR.out.below hB).below (hW.mono hB.size))
    have hc1 := hcv _ (Below.refl _ _).drew
    have hb1 := (Below.refl w1.heap.size w1).drew
    have HCV := Lib.hid hcv
    clear hcv
    have HP : Hid (∀ W, Calls Tryd.prog 34 #[.int .i32 z] W fun e w' => (∃ A c, e = .returned (.slice A (putL z).length c) ∧ (Go.convert 54 9 (.slice A (putL z).length c)).run Tryd.prog w' = .ok (.string (strL (putL z))) w') ∧ Below W.heap.size W w') := Lib.hid fun W => (refput_any z W).mono (by
      rintro e w' ⟨A', c', rfl, hb, hB⟩
      exact ⟨⟨A', c', rfl, conv_str _ c' rfl hb⟩, hB⟩)
    have HE : Hid (((strL (putL z)).toList == (strL zs).toList) = decide (putL z = zs)) := Lib.hid (str_beq (putL_lt z) HR.out.1)
    generalize putL z = pl at *
    generalize pl.length = m at *
    go_region_with (go_at_call 34; (with_reducible refine (HP.out _).mono ?_); rintro e6 w6 ⟨⟨A6, c6, rfl, hcv6⟩, hb6⟩; have hc6 := (hconv_next HCV hb1 hb6).1)
    all_goals
      go_wp2
      go_ret
      refine ⟨?_, hB.trans ((hb1.trans (Below.mono hb6 hb1.size)).mono hB.size)⟩
      rw [HD.out]
      exact congrArg (fun b => Ending.returned (.bool b)) HE.out

/-- Are bytes a scalar's? -/
def isB (zs : List Nat) : Bool := decide (0 ≤ numZ zs) && decide (putL (numZ zs) = zs)
set_option maxRecDepth 100000 in
theorem is_any (A : Option Addr) (zs : List Nat) (n c : Nat) (hn : n = zs.length) (w : World) (hR : BS w w.heap.size A zs) :
    Calls Tryd.prog 79 #[.slice A n c] w fun e w' => e = .returned (.bool (isB zs)) ∧ Below w.heap.size w w' :=
  is_aux A zs n c hn (numZ zs) w hR (number_any A zs n c hn w hR)

end Go.Proofs.YtoiekhjmfoodiaaDoor

namespace Go.Proofs.YtoiekhjmfoodiaaDoor
open Go.RowKit

set_option maxRecDepth 100000 in
theorem enc_put (r : Int) (h : scalarB r = true) : Utf8.encode r = strL (putL r) := by
  obtain ⟨h0, h1⟩ := scalarB_bd h
  have hv : Utf8.valid r = true := by
    have := of_decide_eq_true h
    unfold Utf8.valid
    simp only [Bool.or_eq_true, Bool.and_eq_true, decide_eq_true_eq]
    omega
  obtain ⟨n, rfl⟩ := Int.eq_ofNat_of_zero_le h0
  unfold Utf8.encode putL strL
  rw [if_pos h]
  simp only [hv, if_true, Int.toNat_natCast]
  have e1 : ((n : Int) / 64).toNat = n / 64 := by omega
  have e2 : ((n : Int) % 64).toNat = n % 64 := by omega
  have e3 : ((n : Int) / 64 / 64).toNat = n / 4096 := by omega
  have e4 : ((n : Int) / 64 % 64).toNat = n / 64 % 64 := by omega
  have e5 : ((n : Int) / 64 / 64 / 64).toNat = n / 262144 := by omega
  have e6 : ((n : Int) / 64 / 64 % 64).toNat = n / 4096 % 64 := by omega
  by_cases a : n < 128
  · have a' : (n : Int) < 128 := by omega
    rw [if_pos a, if_pos a']
    simp [putN]
  have a' : ¬ (n : Int) < 128 := by omega
  rw [if_neg a, if_neg a']
  by_cases b : n < 2048
  · have b' : (n : Int) < 2048 := by omega
    rw [if_pos b, if_pos b']
    simp [putN, e1, e2]
  have b' : ¬ (n : Int) < 2048 := by omega
  rw [if_neg b, if_neg b']
  by_cases c : n < 65536
  · have c' : (n : Int) < 65536 := by omega
    rw [if_pos c, if_pos c']
    simp [putN, e2, e3, e4]
  have c' : ¬ (n : Int) < 65536 := by omega
  rw [if_neg c, if_neg c']
  simp [putN, e2, e4, e5, e6]

set_option maxHeartbeats 1000000 in
set_option maxRecDepth 100000 in
/-- What is read first where a scalar's bytes stand. -/
theorem dec_put_more (r : Int) (h : scalarB r = true) (more : List Nat) : decN (putL r ++ more) = (r.toNat, (putL r).length) := by
  have hsc := of_decide_eq_true h
  obtain ⟨h0, h1⟩ := scalarB_bd h
  obtain ⟨n, rfl⟩ := Int.eq_ofNat_of_zero_le h0
  unfold putL decN
  rw [if_pos h]
  by_cases a : (n : Int) < 128
  · rw [if_pos a]
    have a' : n < 128 := by omega
    simp [putN, Lib.decodeN, a']
  rw [if_neg a]
  by_cases b : (n : Int) < 2048
  · rw [if_pos b]
    simp only [putN, List.cons_append, List.nil_append, List.length_cons, List.getElem?_cons_zero, List.getElem?_cons_succ, Option.getD_some]
    unfold Lib.decodeN
    rw [if_neg (by omega), if_pos (by omega), if_pos (by omega)]
    refine Prod.ext ?_ rfl
    dsimp only
    omega
  rw [if_neg b]
  by_cases c : (n : Int) < 65536
  · rw [if_pos c]
    simp only [putN, List.cons_append, List.nil_append, List.length_cons, List.getElem?_cons_zero, List.getElem?_cons_succ, Option.getD_some]
    unfold Lib.decodeN
    rw [if_neg (by omega), if_neg (by omega), if_pos (by omega), if_pos (by omega)]
    refine Prod.ext ?_ rfl
    dsimp only
    omega
  rw [if_neg c]
  simp only [putN, List.cons_append, List.nil_append, List.length_cons, List.getElem?_cons_zero, List.getElem?_cons_succ, Option.getD_some]
  unfold Lib.decodeN
  rw [if_neg (by omega), if_neg (by omega), if_neg (by omega), if_pos (by omega), if_pos (by omega)]
  refine Prod.ext ?_ rfl
  dsimp only
  omega

set_option maxRecDepth 100000 in
theorem firstT_sz : ∀ z, z < 256 → Lib.firstT z % 8 ≤ (if z < 128 then 1 else if z < 224 then 2 else if z < 240 then 3 else 4) := by decide
set_option maxRecDepth 100000 in
theorem putL_len (r : Int) (h : scalarB r = true) : 0 < (putL r).length ∧ (putL r).length ≤ 4 := by
  unfold putL
  rw [if_pos h]
  split
  · simp [putN]
  split
  · simp [putN]
  split <;> simp [putN]
set_option maxRecDepth 100000 in
theorem full_put (r : Int) (h : scalarB r = true) (more : List Nat) : fullB (putL r ++ more) = true := by
  obtain ⟨h0, h1⟩ := scalarB_bd h
  have hlt := putL_lt r
  unfold fullB fullN fullX
  refine decide_eq_true ⟨by have := (putL_len r h).1; rw [List.length_append]; omega, .inl ?_⟩
  unfold putL at hlt ⊢
  rw [if_pos h] at hlt ⊢
  by_cases a : r < 128
  · rw [if_pos a] at hlt ⊢
    have := firstT_sz _ (hlt r.toNat (by simp [putN]))
    rw [if_pos (by omega)] at this
    simp only [putN, List.cons_append, List.nil_append, List.length_cons, List.getElem?_cons_zero, Option.getD_some]
    omega
  rw [if_neg a] at hlt ⊢
  by_cases b : r < 2048
  · rw [if_pos b] at hlt ⊢
    have := firstT_sz _ (hlt (192 + (r / 64).toNat) (by simp [putN]))
    rw [if_neg (by omega), if_pos (by omega)] at this
    simp only [putN, List.cons_append, List.nil_append, List.length_cons, List.getElem?_cons_zero, Option.getD_some]
    omega
  rw [if_neg b] at hlt ⊢
  by_cases c : r < 65536
  · rw [if_pos c] at hlt ⊢
    have := firstT_sz _ (hlt (224 + (r / 64 / 64).toNat) (by simp [putN]))
    rw [if_neg (by omega), if_neg (by omega), if_pos (by omega)] at this
    simp only [putN, List.cons_append, List.nil_append, List.length_cons, List.getElem?_cons_zero, Option.getD_some]
    omega
  rw [if_neg c] at hlt ⊢
  have := firstT_sz _ (hlt (240 + (r / 64 / 64 / 64).toNat) (by simp [putN]))
  rw [if_neg (by omega), if_neg (by omega), if_neg (by omega)] at this
  simp only [putN, List.cons_append, List.nil_append, List.length_cons, List.getElem?_cons_zero, Option.getD_some]
  omega
set_option maxRecDepth 100000 in
theorem first_put (r : Int) (h : scalarB r = true) (more : List Nat) : firstF (putL r ++ more) = (r.toNat, (putL r).length) := by
  unfold firstF
  rw [dec_put_more r h more]
  refine if_neg fun hh => ?_
  have hr : r = 65533 := by have := (scalarB_bd h).1; have := hh.1; dsimp only at this; omega
  subst hr
  exact absurd hh.2 (by decide)
set_option maxRecDepth 100000 in
theorem rd_put (r : Int) (h : scalarB r = true) (more : List Nat) : rdL (putL r ++ more) = (r.toNat, (putL r).length) :: rdL more := by
  rw [rdL_yes _ (full_put r h more), first_put r h more]
  dsimp only
  rw [List.drop_left]
set_option maxRecDepth 100000 in
/-- A scalar's bytes are read as this scalar, whatever stands behind them. -/
theorem all_put (r : Int) (h : scalarB r = true) (more : List Nat) : allL (putL r ++ more) = r.toNat :: allL more := by
  unfold allL
  rw [rd_put r h more]
  have es : sumB ((r.toNat, (putL r).length) :: rdL more) = (putL r).length + sumB (rdL more) := by simp [sumB]
  rw [es, List.length_append, List.map_cons, List.cons_append]
  congr 2
  by_cases hh : sumB (rdL more) < more.length
  · rw [if_pos hh, if_pos (by omega)]
  · rw [if_neg hh, if_neg (by omega)]

end Go.Proofs.YtoiekhjmfoodiaaDoor
