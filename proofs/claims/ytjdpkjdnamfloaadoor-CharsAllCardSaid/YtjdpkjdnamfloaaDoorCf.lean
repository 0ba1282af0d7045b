/- The walk of the document's Name. -/
import Derived.Test.YtjdpkjdnamfloaaDoorCe
namespace Go.Proofs.YtjdpkjdnamfloaaDoor
open Go.RowKit

theorem hit_name {s : ByteArray} {t : ByteArray} {k : UInt8} (ht : t.data.toList = [k]) (h : s.toList = t.toList) (old x : Int) (hx : okB x = true) : nameC k old s x = x := by
  rw [ByteArray.toList_eq, ByteArray.toList_eq, ht] at h
  exact if_pos ⟨h, hx⟩
theorem miss_name {s : ByteArray} {t : ByteArray} {k : UInt8} (ht : t.data.toList = [k]) (h : ¬ s.toList = t.toList) (old x : Int) : nameC k old s x = old := by
  rw [ByteArray.toList_eq, ByteArray.toList_eq, ht] at h
  exact if_neg fun hh => h hh.1

set_option maxHeartbeats 2000000 in
theorem refName_66 (a b c d u o : Int) (s : ByteArray) (w : World) :
    Calls Tryd.prog 13 #[.agg #[.int .i64 a, .int .i64 b, .int .i64 c, .int .i64 d, .int .i64 u, .int .i64 o], .string s, .int .u8 66] w fun e w' => e = .returned (.agg #[.int .i64 (nameC 40 a s 66), .int .i64 (nameC 41 b s 66), .int .i64 (nameC 42 c s 66), .int .i64 (nameC 43 d s 66), .int .i64 u, .int .i64 o]) ∧ Below w.heap.size w w' := by
  go_enter Tryd.func13, Tryd.ntmps13
  go_wp2
  go_loopw [7] (fun i wr => (i = .int .i64 0 ∧ wr = (w.alloc (.cells #[.int .i64 a, .int .i64 b, .int .i64 c, .int .i64 d, .int .i64 u, .int .i64 o] 28)).alloc (.cells #[.int .i64 0, .int .i64 0, .int .i64 0, .int .i64 0, .int .i64 0, .int .i64 0] 28)) ∨ (i = .int .i64 1 ∧ wr = (w.alloc (.cells #[.int .i64 (nameC 40 a s 66), .int .i64 b, .int .i64 c, .int .i64 d, .int .i64 u, .int .i64 o] 28)).alloc (.cells #[.int .i64 0, .int .i64 0, .int .i64 0, .int .i64 0, .int .i64 0, .int .i64 0] 28)) ∨ (i = .int .i64 2 ∧ wr = (w.alloc (.cells #[.int .i64 (nameC 40 a s 66), .int .i64 (nameC 41 b s 66), .int .i64 c, .int .i64 d, .int .i64 u, .int .i64 o] 28)).alloc (.cells #[.int .i64 0, .int .i64 0, .int .i64 0, .int .i64 0, .int .i64 0, .int .i64 0] 28)) ∨ (i = .int .i64 3 ∧ wr = (w.alloc (.cells #[.int .i64 (nameC 40 a s 66), .int .i64 (nameC 41 b s 66), .int .i64 (nameC 42 c s 66), .int .i64 d, .int .i64 u, .int .i64 o] 28)).alloc (.cells #[.int .i64 0, .int .i64 0, .int .i64 0, .int .i64 0, .int .i64 0, .int .i64 0] 28)) ∨ (i = .int .i64 4 ∧ wr = (w.alloc (.cells #[.int .i64 (nameC 40 a s 66), .int .i64 (nameC 41 b s 66), .int .i64 (nameC 42 c s 66), .int .i64 (nameC 43 d s 66), .int .i64 u, .int .i64 o] 28)).alloc (.cells #[.int .i64 0, .int .i64 0, .int .i64 0, .int .i64 0, .int .i64 0, .int .i64 0] 28))) (fun i _ => 4 - (intOf i).toNat)
  case atStart => exact .inl ⟨rfl, rfl⟩
  case round =>
    obtain ⟨rfl, rfl⟩ | ⟨rfl, rfl⟩ | ⟨rfl, rfl⟩ | ⟨rfl, rfl⟩ | ⟨rfl, rfl⟩ := hrel
    · go_wp2
      · have HZ := Lib.hid (hit_name (s := s) (t := (ByteArray.mk #[40, 41, 42, 43]).extract 0 1) (k := 40) rfl (by assumption) a 66 rfl)
        go_roundw
        case rel => exact .inr (.inl ⟨rfl, by rw [HZ.out]⟩)
        case measure => simp [intOf]
      · have HZ := Lib.hid (miss_name (s := s) (t := (ByteArray.mk #[40, 41, 42, 43]).extract 0 1) (k := 40) rfl (by assumption) a 66)
        go_roundw
        case rel => exact .inr (.inl ⟨rfl, by rw [HZ.out]⟩)
        case measure => simp [intOf]
    · go_wp2
      · have HZ := Lib.hid (hit_name (s := s) (t := (ByteArray.mk #[40, 41, 42, 43]).extract 1 2) (k := 41) rfl (by assumption) b 66 rfl)
        go_roundw
        case rel => exact .inr (.inr (.inl ⟨rfl, by rw [HZ.out]⟩))
        case measure => simp [intOf]
      · have HZ := Lib.hid (miss_name (s := s) (t := (ByteArray.mk #[40, 41, 42, 43]).extract 1 2) (k := 41) rfl (by assumption) b 66)
        go_roundw
        case rel => exact .inr (.inr (.inl ⟨rfl, by rw [HZ.out]⟩))
        case measure => simp [intOf]
    · go_wp2
      · have HZ := Lib.hid (hit_name (s := s) (t := (ByteArray.mk #[40, 41, 42, 43]).extract 2 3) (k := 42) rfl (by assumption) c 66 rfl)
        go_roundw
        case rel => exact .inr (.inr (.inr (.inl ⟨rfl, by rw [HZ.out]⟩)))
        case measure => simp [intOf]
      · have HZ := Lib.hid (miss_name (s := s) (t := (ByteArray.mk #[40, 41, 42, 43]).extract 2 3) (k := 42) rfl (by assumption) c 66)
        go_roundw
        case rel => exact .inr (.inr (.inr (.inl ⟨rfl, by rw [HZ.out]⟩)))
        case measure => simp [intOf]
    · go_wp2
      · have HZ := Lib.hid (hit_name (s := s) (t := (ByteArray.mk #[40, 41, 42, 43]).extract 3 4) (k := 43) rfl (by assumption) d 66 rfl)
        go_roundw
        case rel => exact .inr (.inr (.inr (.inr (⟨rfl, by rw [HZ.out]⟩))))
        case measure => simp [intOf]
      · have HZ := Lib.hid (miss_name (s := s) (t := (ByteArray.mk #[40, 41, 42, 43]).extract 3 4) (k := 43) rfl (by assumption) d 66)
        go_roundw
        case rel => exact .inr (.inr (.inr (.inr (⟨rfl, by rw [HZ.out]⟩))))
        case measure => simp [intOf]
    · go_wp2
      exact bodyPost_ret (v := .agg #[.int .i64 (nameC 40 a s 66), .int .i64 (nameC 41 b s 66), .int .i64 (nameC 42 c s 66), .int .i64 (nameC 43 d s 66), .int .i64 u, .int .i64 o]) (by simp [results, Tryd.results13, go_sem]) rfl ⟨rfl, ((Below.refl _ _).alloc (Nat.le_refl _) _).alloc (by simp) _⟩

set_option maxHeartbeats 2000000 in
theorem refName_48 (a b c d u o : Int) (s : ByteArray) (w : World) :
    Calls Tryd.prog 13 #[.agg #[.int .i64 a, .int .i64 b, .int .i64 c, .int .i64 d, .int .i64 u, .int .i64 o], .string s, .int .u8 48] w fun e w' => e = .returned (.agg #[.int .i64 (nameC 40 a s 48), .int .i64 (nameC 41 b s 48), .int .i64 (nameC 42 c s 48), .int .i64 (nameC 43 d s 48), .int .i64 u, .int .i64 o]) ∧ Below w.heap.size w w' := by
  go_enter Tryd.func13, Tryd.ntmps13
  go_wp2
  go_loopw [7] (fun i wr => (i = .int .i64 0 ∧ wr = (w.alloc (.cells #[.int .i64 a, .int .i64 b, .int .i64 c, .int .i64 d, .int .i64 u, .int .i64 o] 28)).alloc (.cells #[.int .i64 0, .int .i64 0, .int .i64 0, .int .i64 0, .int .i64 0, .int .i64 0] 28)) ∨ (i = .int .i64 1 ∧ wr = (w.alloc (.cells #[.int .i64 (nameC 40 a s 48), .int .i64 b, .int .i64 c, .int .i64 d, .int .i64 u, .int .i64 o] 28)).alloc (.cells #[.int .i64 0, .int .i64 0, .int .i64 0, .int .i64 0, .int .i64 0, .int .i64 0] 28)) ∨ (i = .int .i64 2 ∧ wr = (w.alloc (.cells #[.int .i64 (nameC 40 a s 48), .int .i64 (nameC 41 b s 48), .int .i64 c, .int .i64 d, .int .i64 u, .int .i64 o] 28)).alloc (.cells #[.int .i64 0, .int .i64 0, .int .i64 0, .int .i64 0, .int .i64 0, .int .i64 0] 28)) ∨ (i = .int .i64 3 ∧ wr = (w.alloc (.cells #[.int .i64 (nameC 40 a s 48), .int .i64 (nameC 41 b s 48), .int .i64 (nameC 42 c s 48), .int .i64 d, .int .i64 u, .int .i64 o] 28)).alloc (.cells #[.int .i64 0, .int .i64 0, .int .i64 0, .int .i64 0, .int .i64 0, .int .i64 0] 28)) ∨ (i = .int .i64 4 ∧ wr = (w.alloc (.cells #[.int .i64 (nameC 40 a s 48), .int .i64 (nameC 41 b s 48), .int .i64 (nameC 42 c s 48), .int .i64 (nameC 43 d s 48), .int .i64 u, .int .i64 o] 28)).alloc (.cells #[.int .i64 0, .int .i64 0, .int .i64 0, .int .i64 0, .int .i64 0, .int .i64 0] 28))) (fun i _ => 4 - (intOf i).toNat)
  case atStart => exact .inl ⟨rfl, rfl⟩
  case round =>
    obtain ⟨rfl, rfl⟩ | ⟨rfl, rfl⟩ | ⟨rfl, rfl⟩ | ⟨rfl, rfl⟩ | ⟨rfl, rfl⟩ := hrel
    · go_wp2
      · have HZ := Lib.hid (hit_name (s := s) (t := (ByteArray.mk #[40, 41, 42, 43]).extract 0 1) (k := 40) rfl (by assumption) a 48 rfl)
        go_roundw
        case rel => exact .inr (.inl ⟨rfl, by rw [HZ.out]⟩)
        case measure => simp [intOf]
      · have HZ := Lib.hid (miss_name (s := s) (t := (ByteArray.mk #[40, 41, 42, 43]).extract 0 1) (k := 40) rfl (by assumption) a 48)
        go_roundw
        case rel => exact .inr (.inl ⟨rfl, by rw [HZ.out]⟩)
        case measure => simp [intOf]
    · go_wp2
      · have HZ := Lib.hid (hit_name (s := s) (t := (ByteArray.mk #[40, 41, 42, 43]).extract 1 2) (k := 41) rfl (by assumption) b 48 rfl)
        go_roundw
        case rel => exact .inr (.inr (.inl ⟨rfl, by rw [HZ.out]⟩))
        case measure => simp [intOf]
      · have HZ := Lib.hid (miss_name (s := s) (t := (ByteArray.mk #[40, 41, 42, 43]).extract 1 2) (k := 41) rfl (by assumption) b 48)
        go_roundw
        case rel => exact .inr (.inr (.inl ⟨rfl, by rw [HZ.out]⟩))
        case measure => simp [intOf]
    · go_wp2
      · have HZ := Lib.hid (hit_name (s := s) (t := (ByteArray.mk #[40, 41, 42, 43]).extract 2 3) (k := 42) rfl (by assumption) c 48 rfl)
        go_roundw
        case rel => exact .inr (.inr (.inr (.inl ⟨rfl, by rw [HZ.out]⟩)))
        case measure => simp [intOf]
      · have HZ := Lib.hid (miss_name (s := s) (t := (ByteArray.mk #[40, 41, 42, 43]).extract 2 3) (k := 42) rfl (by assumption) c 48)
        go_roundw
        case rel => exact .inr (.inr (.inr (.inl ⟨rfl, by rw [HZ.out]⟩)))
        case measure => simp [intOf]
    · go_wp2
      · have HZ := Lib.hid (hit_name (s := s) (t := (ByteArray.mk #[40, 41, 42, 43]).extract 3 4) (k := 43) rfl (by assumption) d 48 rfl)
        go_roundw
        case rel => exact .inr (.inr (.inr (.inr (⟨rfl, by rw [HZ.out]⟩))))
        case measure => simp [intOf]
      · have HZ := Lib.hid (miss_name (s := s) (t := (ByteArray.mk #[40, 41, 42, 43]).extract 3 4) (k := 43) rfl (by assumption) d 48)
        go_roundw
        case rel => exact .inr (.inr (.inr (.inr (⟨rfl, by rw [HZ.out]⟩))))
        case measure => simp [intOf]
    · go_wp2
      exact bodyPost_ret (v := .agg #[.int .i64 (nameC 40 a s 48), .int .i64 (nameC 41 b s 48), .int .i64 (nameC 42 c s 48), .int .i64 (nameC 43 d s 48), .int .i64 u, .int .i64 o]) (by simp [results, Tryd.results13, go_sem]) rfl ⟨rfl, ((Below.refl _ _).alloc (Nat.le_refl _) _).alloc (by simp) _⟩

set_option maxHeartbeats 2000000 in
theorem refName_65 (a b c d u o : Int) (s : ByteArray) (w : World) :
    Calls Tryd.prog 13 #[.agg #[.int .i64 a, .int .i64 b, .int .i64 c, .int .i64 d, .int .i64 u, .int .i64 o], .string s, .int .u8 65] w fun e w' => e = .returned (.agg #[.int .i64 (nameC 40 a s 65), .int .i64 (nameC 41 b s 65), .int .i64 (nameC 42 c s 65), .int .i64 (nameC 43 d s 65), .int .i64 u, .int .i64 o]) ∧ Below w.heap.size w w' := by
  go_enter Tryd.func13, Tryd.ntmps13
  go_wp2
  go_loopw [7] (fun i wr => (i = .int .i64 0 ∧ wr = (w.alloc (.cells #[.int .i64 a, .int .i64 b, .int .i64 c, .int .i64 d, .int .i64 u, .int .i64 o] 28)).alloc (.cells #[.int .i64 0, .int .i64 0, .int .i64 0, .int .i64 0, .int .i64 0, .int .i64 0] 28)) ∨ (i = .int .i64 1 ∧ wr = (w.alloc (.cells #[.int .i64 (nameC 40 a s 65), .int .i64 b, .int .i64 c, .int .i64 d, .int .i64 u, .int .i64 o] 28)).alloc (.cells #[.int .i64 0, .int .i64 0, .int .i64 0, .int .i64 0, .int .i64 0, .int .i64 0] 28)) ∨ (i = .int .i64 2 ∧ wr = (w.alloc (.cells #[.int .i64 (nameC 40 a s 65), .int .i64 (nameC 41 b s 65), .int .i64 c, .int .i64 d, .int .i64 u, .int .i64 o] 28)).alloc (.cells #[.int .i64 0, .int .i64 0, .int .i64 0, .int .i64 0, .int .i64 0, .int .i64 0] 28)) ∨ (i = .int .i64 3 ∧ wr = (w.alloc (.cells #[.int .i64 (nameC 40 a s 65), .int .i64 (nameC 41 b s 65), .int .i64 (nameC 42 c s 65), .int .i64 d, .int .i64 u, .int .i64 o] 28)).alloc (.cells #[.int .i64 0, .int .i64 0, .int .i64 0, .int .i64 0, .int .i64 0, .int .i64 0] 28)) ∨ (i = .int .i64 4 ∧ wr = (w.alloc (.cells #[.int .i64 (nameC 40 a s 65), .int .i64 (nameC 41 b s 65), .int .i64 (nameC 42 c s 65), .int .i64 (nameC 43 d s 65), .int .i64 u, .int .i64 o] 28)).alloc (.cells #[.int .i64 0, .int .i64 0, .int .i64 0, .int .i64 0, .int .i64 0, .int .i64 0] 28))) (fun i _ => 4 - (intOf i).toNat)
  case atStart => exact .inl ⟨rfl, rfl⟩
  case round =>
    obtain ⟨rfl, rfl⟩ | ⟨rfl, rfl⟩ | ⟨rfl, rfl⟩ | ⟨rfl, rfl⟩ | ⟨rfl, rfl⟩ := hrel
    · go_wp2
      · have HZ := Lib.hid (hit_name (s := s) (t := (ByteArray.mk #[40, 41, 42, 43]).extract 0 1) (k := 40) rfl (by assumption) a 65 rfl)
        go_roundw
        case rel => exact .inr (.inl ⟨rfl, by rw [HZ.out]⟩)
        case measure => simp [intOf]
      · have HZ := Lib.hid (miss_name (s := s) (t := (ByteArray.mk #[40, 41, 42, 43]).extract 0 1) (k := 40) rfl (by assumption) a 65)
        go_roundw
        case rel => exact .inr (.inl ⟨rfl, by rw [HZ.out]⟩)
        case measure => simp [intOf]
    · go_wp2
      · have HZ := Lib.hid (hit_name (s := s) (t := (ByteArray.mk #[40, 41, 42, 43]).extract 1 2) (k := 41) rfl (by assumption) b 65 rfl)
        go_roundw
        case rel => exact .inr (.inr (.inl ⟨rfl, by rw [HZ.out]⟩))
        case measure => simp [intOf]
      · have HZ := Lib.hid (miss_name (s := s) (t := (ByteArray.mk #[40, 41, 42, 43]).extract 1 2) (k := 41) rfl (by assumption) b 65)
        go_roundw
        case rel => exact .inr (.inr (.inl ⟨rfl, by rw [HZ.out]⟩))
        case measure => simp [intOf]
    · go_wp2
      · have HZ := Lib.hid (hit_name (s := s) (t := (ByteArray.mk #[40, 41, 42, 43]).extract 2 3) (k := 42) rfl (by assumption) c 65 rfl)
        go_roundw
        case rel => exact .inr (.inr (.inr (.inl ⟨rfl, by rw [HZ.out]⟩)))
        case measure => simp [intOf]
      · have HZ := Lib.hid (miss_name (s := s) (t := (ByteArray.mk #[40, 41, 42, 43]).extract 2 3) (k := 42) rfl (by assumption) c 65)
        go_roundw
        case rel => exact .inr (.inr (.inr (.inl ⟨rfl, by rw [HZ.out]⟩)))
        case measure => simp [intOf]
    · go_wp2
      · have HZ := Lib.hid (hit_name (s := s) (t := (ByteArray.mk #[40, 41, 42, 43]).extract 3 4) (k := 43) rfl (by assumption) d 65 rfl)
        go_roundw
        case rel => exact .inr (.inr (.inr (.inr (⟨rfl, by rw [HZ.out]⟩))))
        case measure => simp [intOf]
      · have HZ := Lib.hid (miss_name (s := s) (t := (ByteArray.mk #[40, 41, 42, 43]).extract 3 4) (k := 43) rfl (by assumption) d 65)
        go_roundw
        case rel => exact .inr (.inr (.inr (.inr (⟨rfl, by rw [HZ.out]⟩))))
        case measure => simp [intOf]
    · go_wp2
      exact bodyPost_ret (v := .agg #[.int .i64 (nameC 40 a s 65), .int .i64 (nameC 41 b s 65), .int .i64 (nameC 42 c s 65), .int .i64 (nameC 43 d s 65), .int .i64 u, .int .i64 o]) (by simp [results, Tryd.results13, go_sem]) rfl ⟨rfl, ((Below.refl _ _).alloc (Nat.le_refl _) _).alloc (by simp) _⟩

set_option maxHeartbeats 2000000 in
theorem refName_no (a b c d u o x : Int) (hx : okB x = false) (s : ByteArray) (w : World) :
    Calls Tryd.prog 13 #[.agg #[.int .i64 a, .int .i64 b, .int .i64 c, .int .i64 d, .int .i64 u, .int .i64 o], .string s, .int .u8 x] w fun e w' => e = .returned (.agg #[.int .i64 a, .int .i64 b, .int .i64 c, .int .i64 d, .int .i64 u, .int .i64 o]) ∧ Below w.heap.size w w' := by
  have hx' := of_decide_eq_false hx
  have h1 : (x == 66) = false := by simp; omega
  have h2 : (x == 48) = false := by simp; omega
  have h3 : (x == 65) = false := by simp; omega
  clear hx hx'
  go_enter Tryd.func13, Tryd.ntmps13
  go_wp2
  go_loopw [7] (fun i wr => (i = .int .i64 0 ∨ i = .int .i64 1 ∨ i = .int .i64 2 ∨ i = .int .i64 3 ∨ i = .int .i64 4) ∧ wr = (w.alloc (.cells #[.int .i64 a, .int .i64 b, .int .i64 c, .int .i64 d, .int .i64 u, .int .i64 o] 28)).alloc (.cells #[.int .i64 0, .int .i64 0, .int .i64 0, .int .i64 0, .int .i64 0, .int .i64 0] 28)) (fun i _ => 4 - (intOf i).toNat)
  case atStart => exact ⟨.inl rfl, rfl⟩
  case round =>
    obtain ⟨rfl | rfl | rfl | rfl | rfl, rfl⟩ := hrel
    · go_wp2
      all_goals
        go_roundw
        case rel => exact ⟨.inr (.inl rfl), trivial⟩
        case measure => simp [intOf]
    · go_wp2
      all_goals
        go_roundw
        case rel => exact ⟨.inr (.inr (.inl rfl)), trivial⟩
        case measure => simp [intOf]
    · go_wp2
      all_goals
        go_roundw
        case rel => exact ⟨.inr (.inr (.inr (.inl rfl))), trivial⟩
        case measure => simp [intOf]
    · go_wp2
      all_goals
        go_roundw
        case rel => exact ⟨.inr (.inr (.inr (.inr (rfl)))), trivial⟩
        case measure => simp [intOf]
    · go_wp2
      exact bodyPost_ret (v := .agg #[.int .i64 a, .int .i64 b, .int .i64 c, .int .i64 d, .int .i64 u, .int .i64 o]) (by simp [results, Tryd.results13, go_sem]) rfl ⟨rfl, ((Below.refl _ _).alloc (Nat.le_refl _) _).alloc (by simp) _⟩

theorem refName_any (a b c d u o x : Int) (s : ByteArray) (w : World) :
    Calls Tryd.prog 13 #[.agg #[.int .i64 a, .int .i64 b, .int .i64 c, .int .i64 d, .int .i64 u, .int .i64 o], .string s, .int .u8 x] w fun e w' => e = .returned (.agg #[.int .i64 (nameC 40 a s x), .int .i64 (nameC 41 b s x), .int .i64 (nameC 42 c s x), .int .i64 (nameC 43 d s x), .int .i64 u, .int .i64 o]) ∧ Below w.heap.size w w' := by
  cases hx : okB x with
  | false =>
    rw [nameC_last hx, nameC_last hx, nameC_last hx, nameC_last hx]
    exact refName_no a b c d u o x hx s w
  | true =>
    rcases of_decide_eq_true hx with rfl | rfl | rfl
    · exact refName_66 a b c d u o s w
    · exact refName_48 a b c d u o s w
    · exact refName_65 a b c d u o s w

end Go.Proofs.YtjdpkjdnamfloaaDoor
