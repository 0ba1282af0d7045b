/- The walks of State.Name. -/
import Derived.Test.YtjdpkjdnamfloaaDoorCd
import Derived.Test.YtjdpkjdnamfloaaDoorCs
namespace Go.Proofs.YtjdpkjdnamfloaaDoor
open Go.RowKit

def okB (x : Int) : Bool := decide (x = 66 ∨ x = 48 ∨ x = 65)
/-- A set's kind behind a name: k is the byte that names the set. -/
def nameC (k : UInt8) (old : Int) (s : ByteArray) (x : Int) : Int := if s.data.toList = [k] ∧ okB x = true then x else old
theorem nameC_size {s : ByteArray} (h : s.size ≠ 1) (k : UInt8) (old x : Int) : nameC k old s x = old := if_neg fun hh => h (by
  have := congrArg List.length hh.1
  simpa using this)
theorem nameC_last {x : Int} (h : okB x = false) (k : UInt8) (old : Int) (s : ByteArray) : nameC k old s x = old := if_neg fun hh => by rw [h] at hh; exact absurd hh.2 (by decide)
theorem nameC_one (k c : UInt8) (old x : Int) (h : okB x = true) : nameC k old ⟨#[c]⟩ x = if c = k then x else old := by
  unfold nameC
  by_cases e : c = k
  · rw [if_pos e, if_pos ⟨by rw [e], h⟩]
  · rw [if_neg e, if_neg fun hh => e (by simpa using hh.1)]
theorem one_byte {s : ByteArray} (h : s.size = 1) : ∃ c : UInt8, s = ⟨#[c]⟩ := by
  obtain ⟨⟨l⟩⟩ := s
  match l, h with
  | [c], _ => exact ⟨c, rfl⟩
  | [], h => simp [ByteArray.size] at h
  | _ :: _ :: _, h => simp [ByteArray.size] at h

set_option maxHeartbeats 1000000 in
theorem name_keep (a b c d u o x : Int) (s : ByteArray) (w : World) (h : s.size ≠ 1 ∨ okB x = false) :
    Calls Tryd.prog 12 #[.agg #[.int .i64 a, .int .i64 b, .int .i64 c, .int .i64 d, .int .i64 u, .int .i64 o], .string s, .int .u8 x] w fun e w' => e = .returned (.agg #[.int .i64 a, .int .i64 b, .int .i64 c, .int .i64 d, .int .i64 u, .int .i64 o]) ∧ Below w.heap.size w w' := by
  by_cases hs : s.size = 1
  · have hx : okB x = false := by rcases h with h | h; exact absurd hs h; exact h
    have hx' := of_decide_eq_false hx
    have h1 : (x != 66) = true := by simp; omega
    have h2 : (x != 48) = true := by simp; omega
    have h3 : (x != 65) = true := by simp; omega
    obtain ⟨k, rfl⟩ := one_byte hs
    clear hs h hx hx'
    go_enter Tryd.func12, Tryd.ntmps12
    go_wp2
    exact bodyPost_ret (v := .agg #[.int .i64 a, .int .i64 b, .int .i64 c, .int .i64 d, .int .i64 u, .int .i64 o]) (by simp [results, Tryd.results12, go_sem]) rfl ⟨rfl, ((Below.refl _ _).alloc (Nat.le_refl _) _).alloc (by simp) _⟩
  · have h1 : ((s.size : Int) != 1) = true := by simp; omega
    clear hs h
    go_enter Tryd.func12, Tryd.ntmps12
    go_wp2
    exact bodyPost_ret (v := .agg #[.int .i64 a, .int .i64 b, .int .i64 c, .int .i64 d, .int .i64 u, .int .i64 o]) (by simp [results, Tryd.results12, go_sem]) rfl ⟨rfl, ((Below.refl _ _).alloc (Nat.le_refl _) _).alloc (by simp) _⟩

set_option maxHeartbeats 1000000 in
theorem name_0 (a b c d u o x : Int) (w : World) (h : okB x = true) :
    Calls Tryd.prog 12 #[.agg #[.int .i64 a, .int .i64 b, .int .i64 c, .int .i64 d, .int .i64 u, .int .i64 o], .string ⟨#[40]⟩, .int .u8 x] w fun e w' => e = .returned (.agg #[.int .i64 x, .int .i64 b, .int .i64 c, .int .i64 d, .int .i64 u, .int .i64 o]) ∧ Below w.heap.size w w' := by
  have hI := Tryd.strings_IndexByte ⟨#[40, 41, 42, 43]⟩ 40
  rw [show Lib.indexByte (ByteArray.mk #[40, 41, 42, 43]).data.toList (40 : Int).toNat.toUInt8 = 0 from by decide] at hI
  rcases of_decide_eq_true h with rfl | rfl | rfl
  · clear h
    go_enter Tryd.func12, Tryd.ntmps12
    go_wp2_with (go_at_call 25; refine (hI _).mono ?_; rintro e w1 ⟨rfl, rfl⟩)
    exact bodyPost_ret (v := .agg #[.int .i64 66, .int .i64 b, .int .i64 c, .int .i64 d, .int .i64 u, .int .i64 o]) (by simp [results, Tryd.results12, go_sem]) rfl ⟨rfl, ((Below.refl _ _).alloc (Nat.le_refl _) _).alloc (by simp) _⟩
  · clear h
    go_enter Tryd.func12, Tryd.ntmps12
    go_wp2_with (go_at_call 25; refine (hI _).mono ?_; rintro e w1 ⟨rfl, rfl⟩)
    exact bodyPost_ret (v := .agg #[.int .i64 48, .int .i64 b, .int .i64 c, .int .i64 d, .int .i64 u, .int .i64 o]) (by simp [results, Tryd.results12, go_sem]) rfl ⟨rfl, ((Below.refl _ _).alloc (Nat.le_refl _) _).alloc (by simp) _⟩
  · clear h
    go_enter Tryd.func12, Tryd.ntmps12
    go_wp2_with (go_at_call 25; refine (hI _).mono ?_; rintro e w1 ⟨rfl, rfl⟩)
    exact bodyPost_ret (v := .agg #[.int .i64 65, .int .i64 b, .int .i64 c, .int .i64 d, .int .i64 u, .int .i64 o]) (by simp [results, Tryd.results12, go_sem]) rfl ⟨rfl, ((Below.refl _ _).alloc (Nat.le_refl _) _).alloc (by simp) _⟩

set_option maxHeartbeats 1000000 in
theorem name_1 (a b c d u o x : Int) (w : World) (h : okB x = true) :
    Calls Tryd.prog 12 #[.agg #[.int .i64 a, .int .i64 b, .int .i64 c, .int .i64 d, .int .i64 u, .int .i64 o], .string ⟨#[41]⟩, .int .u8 x] w fun e w' => e = .returned (.agg #[.int .i64 a, .int .i64 x, .int .i64 c, .int .i64 d, .int .i64 u, .int .i64 o]) ∧ Below w.heap.size w w' := by
  have hI := Tryd.strings_IndexByte ⟨#[40, 41, 42, 43]⟩ 41
  rw [show Lib.indexByte (ByteArray.mk #[40, 41, 42, 43]).data.toList (41 : Int).toNat.toUInt8 = 1 from by decide] at hI
  rcases of_decide_eq_true h with rfl | rfl | rfl
  · clear h
    go_enter Tryd.func12, Tryd.ntmps12
    go_wp2_with (go_at_call 25; refine (hI _).mono ?_; rintro e w1 ⟨rfl, rfl⟩)
    exact bodyPost_ret (v := .agg #[.int .i64 a, .int .i64 66, .int .i64 c, .int .i64 d, .int .i64 u, .int .i64 o]) (by simp [results, Tryd.results12, go_sem]) rfl ⟨rfl, ((Below.refl _ _).alloc (Nat.le_refl _) _).alloc (by simp) _⟩
  · clear h
    go_enter Tryd.func12, Tryd.ntmps12
    go_wp2_with (go_at_call 25; refine (hI _).mono ?_; rintro e w1 ⟨rfl, rfl⟩)
    exact bodyPost_ret (v := .agg #[.int .i64 a, .int .i64 48, .int .i64 c, .int .i64 d, .int .i64 u, .int .i64 o]) (by simp [results, Tryd.results12, go_sem]) rfl ⟨rfl, ((Below.refl _ _).alloc (Nat.le_refl _) _).alloc (by simp) _⟩
  · clear h
    go_enter Tryd.func12, Tryd.ntmps12
    go_wp2_with (go_at_call 25; refine (hI _).mono ?_; rintro e w1 ⟨rfl, rfl⟩)
    exact bodyPost_ret (v := .agg #[.int .i64 a, .int .i64 65, .int .i64 c, .int .i64 d, .int .i64 u, .int .i64 o]) (by simp [results, Tryd.results12, go_sem]) rfl ⟨rfl, ((Below.refl _ _).alloc (Nat.le_refl _) _).alloc (by simp) _⟩

set_option maxHeartbeats 1000000 in
theorem name_2 (a b c d u o x : Int) (w : World) (h : okB x = true) :
    Calls Tryd.prog 12 #[.agg #[.int .i64 a, .int .i64 b, .int .i64 c, .int .i64 d, .int .i64 u, .int .i64 o], .string ⟨#[42]⟩, .int .u8 x] w fun e w' => e = .returned (.agg #[.int .i64 a, .int .i64 b, .int .i64 x, .int .i64 d, .int .i64 u, .int .i64 o]) ∧ Below w.heap.size w w' := by
  have hI := Tryd.strings_IndexByte ⟨#[40, 41, 42, 43]⟩ 42
  rw [show Lib.indexByte (ByteArray.mk #[40, 41, 42, 43]).data.toList (42 : Int).toNat.toUInt8 = 2 from by decide] at hI
  rcases of_decide_eq_true h with rfl | rfl | rfl
  · clear h
    go_enter Tryd.func12, Tryd.ntmps12
    go_wp2_with (go_at_call 25; refine (hI _).mono ?_; rintro e w1 ⟨rfl, rfl⟩)
    exact bodyPost_ret (v := .agg #[.int .i64 a, .int .i64 b, .int .i64 66, .int .i64 d, .int .i64 u, .int .i64 o]) (by simp [results, Tryd.results12, go_sem]) rfl ⟨rfl, ((Below.refl _ _).alloc (Nat.le_refl _) _).alloc (by simp) _⟩
  · clear h
    go_enter Tryd.func12, Tryd.ntmps12
    go_wp2_with (go_at_call 25; refine (hI _).mono ?_; rintro e w1 ⟨rfl, rfl⟩)
    exact bodyPost_ret (v := .agg #[.int .i64 a, .int .i64 b, .int .i64 48, .int .i64 d, .int .i64 u, .int .i64 o]) (by simp [results, Tryd.results12, go_sem]) rfl ⟨rfl, ((Below.refl _ _).alloc (Nat.le_refl _) _).alloc (by simp) _⟩
  · clear h
    go_enter Tryd.func12, Tryd.ntmps12
    go_wp2_with (go_at_call 25; refine (hI _).mono ?_; rintro e w1 ⟨rfl, rfl⟩)
    exact bodyPost_ret (v := .agg #[.int .i64 a, .int .i64 b, .int .i64 65, .int .i64 d, .int .i64 u, .int .i64 o]) (by simp [results, Tryd.results12, go_sem]) rfl ⟨rfl, ((Below.refl _ _).alloc (Nat.le_refl _) _).alloc (by simp) _⟩

set_option maxHeartbeats 1000000 in
theorem name_3 (a b c d u o x : Int) (w : World) (h : okB x = true) :
    Calls Tryd.prog 12 #[.agg #[.int .i64 a, .int .i64 b, .int .i64 c, .int .i64 d, .int .i64 u, .int .i64 o], .string ⟨#[43]⟩, .int .u8 x] w fun e w' => e = .returned (.agg #[.int .i64 a, .int .i64 b, .int .i64 c, .int .i64 x, .int .i64 u, .int .i64 o]) ∧ Below w.heap.size w w' := by
  have hI := Tryd.strings_IndexByte ⟨#[40, 41, 42, 43]⟩ 43
  rw [show Lib.indexByte (ByteArray.mk #[40, 41, 42, 43]).data.toList (43 : Int).toNat.toUInt8 = 3 from by decide] at hI
  rcases of_decide_eq_true h with rfl | rfl | rfl
  · clear h
    go_enter Tryd.func12, Tryd.ntmps12
    go_wp2_with (go_at_call 25; refine (hI _).mono ?_; rintro e w1 ⟨rfl, rfl⟩)
    exact bodyPost_ret (v := .agg #[.int .i64 a, .int .i64 b, .int .i64 c, .int .i64 66, .int .i64 u, .int .i64 o]) (by simp [results, Tryd.results12, go_sem]) rfl ⟨rfl, ((Below.refl _ _).alloc (Nat.le_refl _) _).alloc (by simp) _⟩
  · clear h
    go_enter Tryd.func12, Tryd.ntmps12
    go_wp2_with (go_at_call 25; refine (hI _).mono ?_; rintro e w1 ⟨rfl, rfl⟩)
    exact bodyPost_ret (v := .agg #[.int .i64 a, .int .i64 b, .int .i64 c, .int .i64 48, .int .i64 u, .int .i64 o]) (by simp [results, Tryd.results12, go_sem]) rfl ⟨rfl, ((Below.refl _ _).alloc (Nat.le_refl _) _).alloc (by simp) _⟩
  · clear h
    go_enter Tryd.func12, Tryd.ntmps12
    go_wp2_with (go_at_call 25; refine (hI _).mono ?_; rintro e w1 ⟨rfl, rfl⟩)
    exact bodyPost_ret (v := .agg #[.int .i64 a, .int .i64 b, .int .i64 c, .int .i64 65, .int .i64 u, .int .i64 o]) (by simp [results, Tryd.results12, go_sem]) rfl ⟨rfl, ((Below.refl _ _).alloc (Nat.le_refl _) _).alloc (by simp) _⟩

theorem index_none (k : UInt8) (h0 : k ≠ 40) (h1 : k ≠ 41) (h2 : k ≠ 42) (h3 : k ≠ 43) : Lib.indexByte (ByteArray.mk #[40, 41, 42, 43]).data.toList ((k.toNat : Nat) : Int).toNat.toUInt8 = -1 := by
  have e : ((k.toNat : Nat) : Int).toNat.toUInt8 = k := by simp
  rw [e]
  simp [Lib.indexByte, h0.symm, h1.symm, h2.symm, h3.symm]
set_option maxHeartbeats 1000000 in
theorem name_other (a b c d u o x : Int) (k : UInt8) (h0 : k ≠ 40) (h1 : k ≠ 41) (h2 : k ≠ 42) (h3 : k ≠ 43) (w : World) (h : okB x = true) :
    Calls Tryd.prog 12 #[.agg #[.int .i64 a, .int .i64 b, .int .i64 c, .int .i64 d, .int .i64 u, .int .i64 o], .string ⟨#[k]⟩, .int .u8 x] w fun e w' => e = .returned (.agg #[.int .i64 a, .int .i64 b, .int .i64 c, .int .i64 d, .int .i64 u, .int .i64 o]) ∧ Below w.heap.size w w' := by
  have hI := Tryd.strings_IndexByte ⟨#[40, 41, 42, 43]⟩ ((k.toNat : Nat) : Int)
  rw [index_none k h0 h1 h2 h3] at hI
  rcases of_decide_eq_true h with rfl | rfl | rfl
  all_goals
    clear h h0 h1 h2 h3
    go_enter Tryd.func12, Tryd.ntmps12
    go_wp2_with (go_at_call 25; refine (hI _).mono ?_; rintro e w1 ⟨rfl, rfl⟩)
    exact bodyPost_ret (v := .agg #[.int .i64 a, .int .i64 b, .int .i64 c, .int .i64 d, .int .i64 u, .int .i64 o]) (by simp [results, Tryd.results12, go_sem]) rfl ⟨rfl, ((Below.refl _ _).alloc (Nat.le_refl _) _).alloc (by simp) _⟩

theorem name_any (a b c d u o x : Int) (s : ByteArray) (w : World) :
    Calls Tryd.prog 12 #[.agg #[.int .i64 a, .int .i64 b, .int .i64 c, .int .i64 d, .int .i64 u, .int .i64 o], .string s, .int .u8 x] w fun e w' => e = .returned (.agg #[.int .i64 (nameC 40 a s x), .int .i64 (nameC 41 b s x), .int .i64 (nameC 42 c s x), .int .i64 (nameC 43 d s x), .int .i64 u, .int .i64 o]) ∧ Below w.heap.size w w' := by
  by_cases hs : s.size = 1
  · cases hx : okB x with
    | false =>
      rw [nameC_last hx, nameC_last hx, nameC_last hx, nameC_last hx]
      exact name_keep a b c d u o x s w (.inr hx)
    | true =>
      obtain ⟨k, rfl⟩ := one_byte hs
      rw [nameC_one _ _ _ _ hx, nameC_one _ _ _ _ hx, nameC_one _ _ _ _ hx, nameC_one _ _ _ _ hx]
      by_cases h0 : k = 40
      · subst h0; exact name_0 a b c d u o x w hx
      by_cases h1 : k = 41
      · subst h1; exact name_1 a b c d u o x w hx
      by_cases h2 : k = 42
      · subst h2; exact name_2 a b c d u o x w hx
      by_cases h3 : k = 43
      · subst h3; exact name_3 a b c d u o x w hx
      rw [if_neg h0, if_neg h1, if_neg h2, if_neg h3]
      exact name_other a b c d u o x k h0 h1 h2 h3 w hx
  · rw [nameC_size hs, nameC_size hs, nameC_size hs, nameC_size hs]
    exact name_keep a b c d u o x s w (.inl hs)

end Go.Proofs.YtjdpkjdnamfloaaDoor
