/- The walks of the reference's Scalar and Put. -/
import Derived.Test.YtdhmpnjodcjjpaaDoorUh
import Derived.Test.YtdhmpnjodcjjpaaDoorUg
namespace Go.Proofs.YtdhmpnjodcjjpaaDoor
open Go.RowKit

set_option maxHeartbeats 400000 in
theorem scalar_any (r : Int) (w : World) :
    Calls Tryd.prog 15 #[.int .i32 r] w fun e w' => e = .returned (.bool (scalarB r)) ∧ w = w' := by
  have hs : scalarB r = decide ((0 ≤ r ∧ r < 55296) ∨ (57343 < r ∧ r ≤ 1114111)) := rfl
  rcases (by omega : r < 0 ∨ (0 ≤ r ∧ r < 55296) ∨ (55296 ≤ r ∧ r ≤ 57343) ∨ (57343 < r ∧ r ≤ 1114111) ∨ 1114111 < r) with h | ⟨h, h'⟩ | ⟨h, h'⟩ | ⟨h, h'⟩ | h
  · rw [decide_eq_false (by omega)] at hs
    rw [hs]; clear hs
    go_enter Tryd.func15, Tryd.ntmps15
    go_wp2
    go_ret
    exact ⟨rfl, rfl⟩
  · rw [decide_eq_true (by omega)] at hs
    rw [hs]; clear hs
    go_enter Tryd.func15, Tryd.ntmps15
    go_wp2
    go_ret
    exact ⟨rfl, rfl⟩
  · rw [decide_eq_false (by omega)] at hs
    have h0 : 0 ≤ r := by omega
    rw [hs]; clear hs
    go_enter Tryd.func15, Tryd.ntmps15
    go_wp2
    go_ret
    exact ⟨congrArg (fun b => Ending.returned (.bool b)) (by simp; omega), rfl⟩
  · rw [decide_eq_true (by omega)] at hs
    have h0 : 0 ≤ r := by omega
    have h1 : 55296 ≤ r := by omega
    rw [hs]; clear hs
    go_enter Tryd.func15, Tryd.ntmps15
    go_wp2
    go_ret
    exact ⟨rfl, rfl⟩
  · rw [decide_eq_false (by omega)] at hs
    have h0 : 0 ≤ r := by omega
    have h1 : 55296 ≤ r := by omega
    have h2 : 57343 < r := by omega
    rw [hs]; clear hs
    go_enter Tryd.func15, Tryd.ntmps15
    go_wp2
    go_ret
    exact ⟨congrArg (fun b => Ending.returned (.bool b)) (by simp; omega), rfl⟩

/-- The n bytes of a number. -/
def putN : Nat → Int → List Nat
  | 2, r => [192 + (r / 64).toNat, 128 + (r % 64).toNat]
  | 3, r => [224 + (r / 64 / 64).toNat, 128 + (r / 64 % 64).toNat, 128 + (r % 64).toNat]
  | 4, r => [240 + (r / 64 / 64 / 64).toNat, 128 + (r / 64 / 64 % 64).toNat, 128 + (r / 64 % 64).toNat, 128 + (r % 64).toNat]
  | _, r => [r.toNat]

set_option maxRecDepth 100000 in
set_option maxHeartbeats 1000000 in
theorem refput_1 (r : Int) (h0 : 0 ≤ r) (h1 : r < 128) (hs : scalarB r = true) (w : World) :
    Calls Tryd.prog 16 #[.int .i32 r] w fun e w' => ∃ A c, e = .returned (.slice A 1 c) ∧ BS w' w'.heap.size A (putN 1 r) ∧ Below w.heap.size w w' := by
  have hv := scalar_any r
  rw [hs] at hv
  clear hs
  go_enter Tryd.func16, Tryd.ntmps16
  go_wp2_with (go_at_call 15; refine (hv _).mono ?_; clear hv; rintro e w1 ⟨rfl, rfl⟩)
  have hA : Below w.heap.size w (w.alloc (.cells #[.int .i32 127, .int .i32 2047, .int .i32 65535] 21)) := (Below.refl _ _).alloc (Nat.le_refl _) _
  have HA := Lib.hid hA
  clear hA
  go_loopw [3, 13] (fun n i wr => wr = w.alloc (.cells #[.int .i32 127, .int .i32 2047, .int .i32 65535] 21) ∧ ((n = .int .i64 1 ∧ i = .int .i64 0) ∨ (n = .int .i64 1 ∧ i = .int .i64 1) ∨ (n = .int .i64 1 ∧ i = .int .i64 2) ∨ (n = .int .i64 1 ∧ i = .int .i64 3))) (fun _ i _ => 3 - (intOf i).toNat)
  case atStart => exact ⟨rfl, .inl ⟨rfl, rfl⟩⟩
  case round =>
    obtain ⟨rfl, ⟨rfl, rfl⟩ | ⟨rfl, rfl⟩ | ⟨rfl, rfl⟩ | ⟨rfl, rfl⟩⟩ := hrel
    · go_wp2
      go_roundw
      case rel => exact ⟨trivial, .inr (.inl ⟨rfl, rfl⟩)⟩
      case measure => simp [intOf]
    · go_wp2
      go_roundw
      case rel => exact ⟨trivial, .inr (.inr (.inl ⟨rfl, rfl⟩))⟩
      case measure => simp [intOf]
    · go_wp2
      go_roundw
      case rel => exact ⟨trivial, .inr (.inr (.inr (⟨rfl, rfl⟩)))⟩
      case measure => simp [intOf]
    · go_wp2
      go_ret
      have hr : Value.int .u8 r = Value.int .u8 (r.toNat : Nat) := by rw [Int.toNat_of_nonneg h0]
      refine ⟨_, _, rfl, ?_, HA.out.alloc HA.out.size _⟩
      rw [hr]
      have hb := bs_new (w.alloc (.cells #[.int .i32 127, .int .i32 2047, .int .i32 65535] 21)) [r.toNat] (by simp; omega)
      rw [show (w.alloc (.cells #[.int .i32 127, .int .i32 2047, .int .i32 65535] 21)).heap.size = w.heap.size + 1 from by simp] at hb
      exact hb

set_option maxRecDepth 100000 in
set_option maxHeartbeats 1000000 in
theorem refput_2 (r : Int) (h0 : 128 ≤ r) (h1 : r < 2048) (hs : scalarB r = true) (w : World) :
    Calls Tryd.prog 16 #[.int .i32 r] w fun e w' => ∃ A c, e = .returned (.slice A 2 c) ∧ BS w' w'.heap.size A (putN 2 r) ∧ Below w.heap.size w w' := by
  have hv := scalar_any r
  rw [hs] at hv
  clear hs
  have g0 : (127 : Int) < r := by omega
  have hmk : ∀ W, (Instr.makeSlice 22 (.int .i64 2) (.int .i64 2)).run Tryd.prog W = .ok (.slice (some ⟨W.heap.size, 0, none⟩) 2 2) (W.alloc (.cells #[.int .u8 0, .int .u8 0] 5)) := fun _ => by kernel_rfl
  go_enter Tryd.func16, Tryd.ntmps16
  go_wp2_with (go_at_call 15; refine (hv _).mono ?_; clear hv; rintro e w1 ⟨rfl, rfl⟩)
  have hA : Below w.heap.size w (w.alloc (.cells #[.int .i32 127, .int .i32 2047, .int .i32 65535] 21)) := (Below.refl _ _).alloc (Nat.le_refl _) _
  have HA := Lib.hid hA
  clear hA
  go_loopw [3, 13] (fun n i wr => wr = w.alloc (.cells #[.int .i32 127, .int .i32 2047, .int .i32 65535] 21) ∧ ((n = .int .i64 1 ∧ i = .int .i64 0) ∨ (n = .int .i64 2 ∧ i = .int .i64 1) ∨ (n = .int .i64 2 ∧ i = .int .i64 2) ∨ (n = .int .i64 2 ∧ i = .int .i64 3))) (fun _ i _ => 3 - (intOf i).toNat)
  case atStart => exact ⟨rfl, .inl ⟨rfl, rfl⟩⟩
  case round =>
    obtain ⟨rfl, ⟨rfl, rfl⟩ | ⟨rfl, rfl⟩ | ⟨rfl, rfl⟩ | ⟨rfl, rfl⟩⟩ := hrel
    · go_wp2
      go_roundw
      case rel => exact ⟨trivial, .inr (.inl ⟨rfl, rfl⟩)⟩
      case measure => simp [intOf]
    · go_wp2
      go_roundw
      case rel => exact ⟨trivial, .inr (.inr (.inl ⟨rfl, rfl⟩))⟩
      case measure => simp [intOf]
    · go_wp2
      go_roundw
      case rel => exact ⟨trivial, .inr (.inr (.inr (⟨rfl, rfl⟩)))⟩
      case measure => simp [intOf]
    · go_wp2
      go_loopw [0, 7] (fun x i wr => (x = .int .i32 (r) ∧ i = .int .i64 1 ∧ wr = (w.alloc (.cells #[.int .i32 127, .int .i32 2047, .int .i32 65535] 21)).alloc (.cells #[.int .u8 0, .int .u8 0] 5)) ∨ (x = .int .i32 (r / 64) ∧ i = .int .i64 0 ∧ wr = (w.alloc (.cells #[.int .i32 127, .int .i32 2047, .int .i32 65535] 21)).alloc (.cells #[.int .u8 0, .int .u8 (128 + r % 64)] 5))) (fun _ i _ => (intOf i).toNat)
      case atStart => exact .inl ⟨rfl, rfl, rfl⟩
      case round =>
        obtain ⟨rfl, rfl, rfl⟩ | ⟨rfl, rfl, rfl⟩ := hrel
        · go_wp2
          go_roundw
          case rel => exact .inr (⟨rfl, rfl, trivial⟩)
          case measure => simp [intOf]
        · go_wp2
          go_ret
          have hb := bs_new (w.alloc (.cells #[.int .i32 127, .int .i32 2047, .int .i32 65535] 21)) [192 + (r / 64).toNat, 128 + (r % 64).toNat] (by simp only [List.mem_cons, List.not_mem_nil, or_false]; omega)
          rw [show (w.alloc (.cells #[.int .i32 127, .int .i32 2047, .int .i32 65535] 21)).heap.size = w.heap.size + 1 from by simp] at hb
          have hL := HA.out.alloc HA.out.size (.cells #[.int .u8 (192 + r / 64), .int .u8 (128 + r % 64)] 5)
          have e0 : (192 + r / 64 : Int) = ((192 + (r / 64).toNat : Nat) : Int) := by omega
          have e1 : (128 + r % 64 : Int) = ((128 + (r % 64).toNat : Nat) : Int) := by omega
          rw [e0, e1] at hL ⊢
          have hB := (Below.refl _ _).alloc (Nat.le_refl ((w.alloc (.cells #[.int .i32 127, .int .i32 2047, .int .i32 65535] 21)).alloc (.cells ([192 + (r / 64).toNat, 128 + (r % 64).toNat].map fun z => Value.int .u8 (z : Nat)).toArray 5)).heap.size) (.cells #[.int .i32 0, .int .i32 0, .int .i32 192, .int .i32 224, .int .i32 240] 21)
          exact ⟨_, _, rfl, (hb.below hB).more hB.size, hL.alloc hL.size _⟩

set_option maxRecDepth 100000 in
set_option maxHeartbeats 1000000 in
theorem refput_3 (r : Int) (h0 : 2048 ≤ r) (h1 : r < 65536) (hs : scalarB r = true) (w : World) :
    Calls Tryd.prog 16 #[.int .i32 r] w fun e w' => ∃ A c, e = .returned (.slice A 3 c) ∧ BS w' w'.heap.size A (putN 3 r) ∧ Below w.heap.size w w' := by
  have hv := scalar_any r
  rw [hs] at hv
  clear hs
  have g0 : (127 : Int) < r := by omega
  have g1 : (2047 : Int) < r := by omega
  have hmk : ∀ W, (Instr.makeSlice 22 (.int .i64 3) (.int .i64 3)).run Tryd.prog W = .ok (.slice (some ⟨W.heap.size, 0, none⟩) 3 3) (W.alloc (.cells #[.int .u8 0, .int .u8 0, .int .u8 0] 5)) := fun _ => by kernel_rfl
  go_enter Tryd.func16, Tryd.ntmps16
  go_wp2_with (go_at_call 15; refine (hv _).mono ?_; clear hv; rintro e w1 ⟨rfl, rfl⟩)
  have hA : Below w.heap.size w (w.alloc (.cells #[.int .i32 127, .int .i32 2047, .int .i32 65535] 21)) := (Below.refl _ _).alloc (Nat.le_refl _) _
  have HA := Lib.hid hA
  clear hA
  go_loopw [3, 13] (fun n i wr => wr = w.alloc (.cells #[.int .i32 127, .int .i32 2047, .int .i32 65535] 21) ∧ ((n = .int .i64 1 ∧ i = .int .i64 0) ∨ (n = .int .i64 2 ∧ i = .int .i64 1) ∨ (n = .int .i64 3 ∧ i = .int .i64 2) ∨ (n = .int .i64 3 ∧ i = .int .i64 3))) (fun _ i _ => 3 - (intOf i).toNat)
  case atStart => exact ⟨rfl, .inl ⟨rfl, rfl⟩⟩
  case round =>
    obtain ⟨rfl, ⟨rfl, rfl⟩ | ⟨rfl, rfl⟩ | ⟨rfl, rfl⟩ | ⟨rfl, rfl⟩⟩ := hrel
    · go_wp2
      go_roundw
      case rel => exact ⟨trivial, .inr (.inl ⟨rfl, rfl⟩)⟩
      case measure => simp [intOf]
    · go_wp2
      go_roundw
      case rel => exact ⟨trivial, .inr (.inr (.inl ⟨rfl, rfl⟩))⟩
      case measure => simp [intOf]
    · go_wp2
      go_roundw
      case rel => exact ⟨trivial, .inr (.inr (.inr (⟨rfl, rfl⟩)))⟩
      case measure => simp [intOf]
    · go_wp2
      go_loopw [0, 7] (fun x i wr => (x = .int .i32 (r) ∧ i = .int .i64 2 ∧ wr = (w.alloc (.cells #[.int .i32 127, .int .i32 2047, .int .i32 65535] 21)).alloc (.cells #[.int .u8 0, .int .u8 0, .int .u8 0] 5)) ∨ (x = .int .i32 (r / 64) ∧ i = .int .i64 1 ∧ wr = (w.alloc (.cells #[.int .i32 127, .int .i32 2047, .int .i32 65535] 21)).alloc (.cells #[.int .u8 0, .int .u8 0, .int .u8 (128 + r % 64)] 5)) ∨ (x = .int .i32 (r / 64 / 64) ∧ i = .int .i64 0 ∧ wr = (w.alloc (.cells #[.int .i32 127, .int .i32 2047, .int .i32 65535] 21)).alloc (.cells #[.int .u8 0, .int .u8 (128 + r / 64 % 64), .int .u8 (128 + r % 64)] 5))) (fun _ i _ => (intOf i).toNat)
      case atStart => exact .inl ⟨rfl, rfl, rfl⟩
      case round =>
        obtain ⟨rfl, rfl, rfl⟩ | ⟨rfl, rfl, rfl⟩ | ⟨rfl, rfl, rfl⟩ := hrel
        · go_wp2
          go_roundw
          case rel => exact .inr (.inl ⟨rfl, rfl, trivial⟩)
          case measure => simp [intOf]
        · go_wp2
          go_roundw
          case rel => exact .inr (.inr (⟨rfl, rfl, trivial⟩))
          case measure => simp [intOf]
        · go_wp2
          go_ret
          have hb := bs_new (w.alloc (.cells #[.int .i32 127, .int .i32 2047, .int .i32 65535] 21)) [224 + (r / 64 / 64).toNat, 128 + (r / 64 % 64).toNat, 128 + (r % 64).toNat] (by simp only [List.mem_cons, List.not_mem_nil, or_false]; omega)
          rw [show (w.alloc (.cells #[.int .i32 127, .int .i32 2047, .int .i32 65535] 21)).heap.size = w.heap.size + 1 from by simp] at hb
          have hL := HA.out.alloc HA.out.size (.cells #[.int .u8 (224 + r / 64 / 64), .int .u8 (128 + r / 64 % 64), .int .u8 (128 + r % 64)] 5)
          have e0 : (224 + r / 64 / 64 : Int) = ((224 + (r / 64 / 64).toNat : Nat) : Int) := by omega
          have e1 : (128 + r / 64 % 64 : Int) = ((128 + (r / 64 % 64).toNat : Nat) : Int) := by omega
          have e2 : (128 + r % 64 : Int) = ((128 + (r % 64).toNat : Nat) : Int) := by omega
          rw [e0, e1, e2] at hL ⊢
          have hB := (Below.refl _ _).alloc (Nat.le_refl ((w.alloc (.cells #[.int .i32 127, .int .i32 2047, .int .i32 65535] 21)).alloc (.cells ([224 + (r / 64 / 64).toNat, 128 + (r / 64 % 64).toNat, 128 + (r % 64).toNat].map fun z => Value.int .u8 (z : Nat)).toArray 5)).heap.size) (.cells #[.int .i32 0, .int .i32 0, .int .i32 192, .int .i32 224, .int .i32 240] 21)
          exact ⟨_, _, rfl, (hb.below hB).more hB.size, hL.alloc hL.size _⟩

set_option maxRecDepth 100000 in
set_option maxHeartbeats 1000000 in
theorem refput_4 (r : Int) (h0 : 65536 ≤ r) (h1 : r < 1114112) (hs : scalarB r = true) (w : World) :
    Calls Tryd.prog 16 #[.int .i32 r] w fun e w' => ∃ A c, e = .returned (.slice A 4 c) ∧ BS w' w'.heap.size A (putN 4 r) ∧ Below w.heap.size w w' := by
  have hv := scalar_any r
  rw [hs] at hv
  clear hs
  have g0 : (127 : Int) < r := by omega
  have g1 : (2047 : Int) < r := by omega
  have g2 : (65535 : Int) < r := by omega
  have hmk : ∀ W, (Instr.makeSlice 22 (.int .i64 4) (.int .i64 4)).run Tryd.prog W = .ok (.slice (some ⟨W.heap.size, 0, none⟩) 4 4) (W.alloc (.cells #[.int .u8 0, .int .u8 0, .int .u8 0, .int .u8 0] 5)) := fun _ => by kernel_rfl
  go_enter Tryd.func16, Tryd.ntmps16
  go_wp2_with (go_at_call 15; refine (hv _).mono ?_; clear hv; rintro e w1 ⟨rfl, rfl⟩)
  have hA : Below w.heap.size w (w.alloc (.cells #[.int .i32 127, .int .i32 2047, .int .i32 65535] 21)) := (Below.refl _ _).alloc (Nat.le_refl _) _
  have HA := Lib.hid hA
  clear hA
  go_loopw [3, 13] (fun n i wr => wr = w.alloc (.cells #[.int .i32 127, .int .i32 2047, .int .i32 65535] 21) ∧ ((n = .int .i64 1 ∧ i = .int .i64 0) ∨ (n = .int .i64 2 ∧ i = .int .i64 1) ∨ (n = .int .i64 3 ∧ i = .int .i64 2) ∨ (n = .int .i64 4 ∧ i = .int .i64 3))) (fun _ i _ => 3 - (intOf i).toNat)
  case atStart => exact ⟨rfl, .inl ⟨rfl, rfl⟩⟩
  case round =>
    obtain ⟨rfl, ⟨rfl, rfl⟩ | ⟨rfl, rfl⟩ | ⟨rfl, rfl⟩ | ⟨rfl, rfl⟩⟩ := hrel
    · go_wp2
      go_roundw
      case rel => exact ⟨trivial, .inr (.inl ⟨rfl, rfl⟩)⟩
      case measure => simp [intOf]
    · go_wp2
      go_roundw
      case rel => exact ⟨trivial, .inr (.inr (.inl ⟨rfl, rfl⟩))⟩
      case measure => simp [intOf]
    · go_wp2
      go_roundw
      case rel => exact ⟨trivial, .inr (.inr (.inr (⟨rfl, rfl⟩)))⟩
      case measure => simp [intOf]
    · go_wp2
      go_loopw [0, 7] (fun x i wr => (x = .int .i32 (r) ∧ i = .int .i64 3 ∧ wr = (w.alloc (.cells #[.int .i32 127, .int .i32 2047, .int .i32 65535] 21)).alloc (.cells #[.int .u8 0, .int .u8 0, .int .u8 0, .int .u8 0] 5)) ∨ (x = .int .i32 (r / 64) ∧ i = .int .i64 2 ∧ wr = (w.alloc (.cells #[.int .i32 127, .int .i32 2047, .int .i32 65535] 21)).alloc (.cells #[.int .u8 0, .int .u8 0, .int .u8 0, .int .u8 (128 + r % 64)] 5)) ∨ (x = .int .i32 (r / 64 / 64) ∧ i = .int .i64 1 ∧ wr = (w.alloc (.cells #[.int .i32 127, .int .i32 2047, .int .i32 65535] 21)).alloc (.cells #[.int .u8 0, .int .u8 0, .int .u8 (128 + r / 64 % 64), .int .u8 (128 + r % 64)] 5)) ∨ (x = .int .i32 (r / 64 / 64 / 64) ∧ i = .int .i64 0 ∧ wr = (w.alloc (.cells #[.int .i32 127, .int .i32 2047, .int .i32 65535] 21)).alloc (.cells #[.int .u8 0, .int .u8 (128 + r / 64 / 64 % 64), .int .u8 (128 + r / 64 % 64), .int .u8 (128 + r % 64)] 5))) (fun _ i _ => (intOf i).toNat)
      case atStart => exact .inl ⟨rfl, rfl, rfl⟩
      case round =>
        obtain ⟨rfl, rfl, rfl⟩ | ⟨rfl, rfl, rfl⟩ | ⟨rfl, rfl, rfl⟩ | ⟨rfl, rfl, rfl⟩ := hrel
        · go_wp2
          go_roundw
          case rel => exact .inr (.inl ⟨rfl, rfl, trivial⟩)
          case measure => simp [intOf]
        · go_wp2
          go_roundw
          case rel => exact .inr (.inr (.inl ⟨rfl, rfl, trivial⟩))
          case measure => simp [intOf]
        · go_wp2
          go_roundw
          case rel => exact .inr (.inr (.inr (⟨rfl, rfl, trivial⟩)))
          case measure => simp [intOf]
        · go_wp2
          go_ret
          have hb := bs_new (w.alloc (.cells #[.int .i32 127, .int .i32 2047, .int .i32 65535] 21)) [240 + (r / 64 / 64 / 64).toNat, 128 + (r / 64 / 64 % 64).toNat, 128 + (r / 64 % 64).toNat, 128 + (r % 64).toNat] (by simp only [List.mem_cons, List.not_mem_nil, or_false]; omega)
          rw [show (w.alloc (.cells #[.int .i32 127, .int .i32 2047, .int .i32 65535] 21)).heap.size = w.heap.size + 1 from by simp] at hb
          have hL := HA.out.alloc HA.out.size (.cells #[.int .u8 (240 + r / 64 / 64 / 64), .int .u8 (128 + r / 64 / 64 % 64), .int .u8 (128 + r / 64 % 64), .int .u8 (128 + r % 64)] 5)
          have e0 : (240 + r / 64 / 64 / 64 : Int) = ((240 + (r / 64 / 64 / 64).toNat : Nat) : Int) := by omega
          have e1 : (128 + r / 64 / 64 % 64 : Int) = ((128 + (r / 64 / 64 % 64).toNat : Nat) : Int) := by omega
          have e2 : (128 + r / 64 % 64 : Int) = ((128 + (r / 64 % 64).toNat : Nat) : Int) := by omega
          have e3 : (128 + r % 64 : Int) = ((128 + (r % 64).toNat : Nat) : Int) := by omega
          rw [e0, e1, e2, e3] at hL ⊢
          have hB := (Below.refl _ _).alloc (Nat.le_refl ((w.alloc (.cells #[.int .i32 127, .int .i32 2047, .int .i32 65535] 21)).alloc (.cells ([240 + (r / 64 / 64 / 64).toNat, 128 + (r / 64 / 64 % 64).toNat, 128 + (r / 64 % 64).toNat, 128 + (r % 64).toNat].map fun z => Value.int .u8 (z : Nat)).toArray 5)).heap.size) (.cells #[.int .i32 0, .int .i32 0, .int .i32 192, .int .i32 224, .int .i32 240] 21)
          exact ⟨_, _, rfl, (hb.below hB).more hB.size, hL.alloc hL.size _⟩

end Go.Proofs.YtdhmpnjodcjjpaaDoor
