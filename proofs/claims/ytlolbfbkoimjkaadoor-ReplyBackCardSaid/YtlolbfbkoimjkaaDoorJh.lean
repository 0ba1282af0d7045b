/- The walks of strings.CutPrefix at a control sequence's beginning, isPrefix, isLast. -/
import Derived.Test.YtlolbfbkoimjkaaDoorJc
import Derived.Test.YtlolbfbkoimjkaaDoorPg
namespace Go.Proofs.YtlolbfbkoimjkaaDoor
open Go.RowKit

def isPreB (c : UInt8) : Bool := decide (60 ≤ c.toNat) && decide (c.toNat ≤ 63)
def isLastB (c : UInt8) : Bool := decide (64 ≤ c.toNat) && decide (c.toNat ≤ 126)
set_option maxRecDepth 100000 in
theorem isPrefix_any (c : UInt8) (w : World) : Calls Tryd.prog 30 #[.int .u8 c.toNat] w fun e w' => e = .returned (.bool (isPreB c)) ∧ w' = w := by
  unfold isPreB
  generalize c.toNat = n
  by_cases h0 : 60 ≤ n
  · have d0 : decide ((60 : Int) ≤ n) = true := decide_eq_true (by omega)
    by_cases h1 : n ≤ 63
    · have d1 : decide ((n : Int) ≤ 63) = true := decide_eq_true (by omega)
      have HE : Hid ((decide (60 ≤ n) && decide (n ≤ 63)) = true) := Lib.hid (by rw [decide_eq_true h0, decide_eq_true h1]; rfl)
      clear h0 h1
      go_enter Tryd.func30, Tryd.ntmps30
      go_wp2
      go_ret
      exact ⟨by rw [HE.out]; rfl, rfl⟩
    · have d1 : decide ((n : Int) ≤ 63) = false := decide_eq_false (by omega)
      have HE : Hid ((decide (60 ≤ n) && decide (n ≤ 63)) = false) := Lib.hid (by rw [decide_eq_true h0, decide_eq_false h1]; rfl)
      clear h0 h1
      go_enter Tryd.func30, Tryd.ntmps30
      go_wp2
      go_ret
      exact ⟨by rw [HE.out]; rfl, rfl⟩
  · have d0 : decide ((60 : Int) ≤ n) = false := decide_eq_false (by omega)
    have HE : Hid ((decide (60 ≤ n) && decide (n ≤ 63)) = false) := Lib.hid (by rw [decide_eq_false h0]; rfl)
    clear h0
    go_enter Tryd.func30, Tryd.ntmps30
    go_wp2
    go_ret
    exact ⟨by rw [HE.out]; rfl, rfl⟩
set_option maxRecDepth 100000 in
theorem isLast_any (c : UInt8) (w : World) : Calls Tryd.prog 31 #[.int .u8 c.toNat] w fun e w' => e = .returned (.bool (isLastB c)) ∧ w' = w := by
  unfold isLastB
  generalize c.toNat = n
  by_cases h0 : 64 ≤ n
  · have d0 : decide ((64 : Int) ≤ n) = true := decide_eq_true (by omega)
    by_cases h1 : n ≤ 126
    · have d1 : decide ((n : Int) ≤ 126) = true := decide_eq_true (by omega)
      have HE : Hid ((decide (64 ≤ n) && decide (n ≤ 126)) = true) := Lib.hid (by rw [decide_eq_true h0, decide_eq_true h1]; rfl)
      clear h0 h1
      go_enter Tryd.func31, Tryd.ntmps31
      go_wp2
      go_ret
      exact ⟨by rw [HE.out]; rfl, rfl⟩
    · have d1 : decide ((n : Int) ≤ 126) = false := decide_eq_false (by omega)
      have HE : Hid ((decide (64 ≤ n) && decide (n ≤ 126)) = false) := Lib.hid (by rw [decide_eq_true h0, decide_eq_false h1]; rfl)
      clear h0 h1
      go_enter Tryd.func31, Tryd.ntmps31
      go_wp2
      go_ret
      exact ⟨by rw [HE.out]; rfl, rfl⟩
  · have d0 : decide ((64 : Int) ≤ n) = false := decide_eq_false (by omega)
    have HE : Hid ((decide (64 ≤ n) && decide (n ≤ 126)) = false) := Lib.hid (by rw [decide_eq_false h0]; rfl)
    clear h0
    go_enter Tryd.func31, Tryd.ntmps31
    go_wp2
    go_ret
    exact ⟨by rw [HE.out]; rfl, rfl⟩

theorem bs_extract (l : List UInt8) (i j : Nat) : (bsB l).extract i j = bsB ((l.drop i).take (j - i)) := by
  apply ByteArray.ext
  apply Array.toList_inj.1
  rw [ByteArray.data_extract, Array.toList_extract]
  simp [bsB, List.extract]
/-- A text that begins a control sequence. -/
theorem hasPre_yes (body : List UInt8) (w : World) : Calls Tryd.prog 52 #[.string (bsB (27 :: 91 :: body)), .string ⟨#[27, 91]⟩] w fun e w' => e = .returned (.bool true) ∧ w' = w := by
  have h2 : (2 : Int) ≤ (bsB (27 :: 91 :: body)).size := by rw [bsB_size]; simp; omega
  have he : ((bsB (27 :: 91 :: body)).extract 0 2).toList = [27, 91] := by rw [bs_extract, bs_toList]; rfl
  generalize bsB (27 :: 91 :: body) = S at *
  go_enter Tryd.func52, Tryd.ntmps52
  go_wp2
  go_ret
  exact ⟨rfl, rfl⟩
theorem hasPre_no (S : ByteArray) (h : S.toList.take 2 ≠ [27, 91]) (w : World) : Calls Tryd.prog 52 #[.string S, .string ⟨#[27, 91]⟩] w fun e w' => e = .returned (.bool false) ∧ w' = w := by
  by_cases h2 : (2 : Int) ≤ S.size
  · have he : ((S.extract 0 2).toList == [27, 91]) = false := beq_false_of_ne (by rw [Lib.extract_toList]; simpa [Lib.toList_data] using h)
    clear h
    go_enter Tryd.func52, Tryd.ntmps52
    go_wp2
    go_ret
    exact ⟨rfl, rfl⟩
  · have hd : decide ((2 : Int) ≤ S.size) = false := decide_eq_false h2
    clear h
    go_enter Tryd.func52, Tryd.ntmps52
    go_wp2
    go_ret
    exact ⟨rfl, rfl⟩
theorem cutPre_yes (body : List UInt8) (w : World) : Calls Tryd.prog 29 #[.string (bsB (27 :: 91 :: body)), .string ⟨#[27, 91]⟩] w fun e w' => e = .returned (.tuple #[.string (bsB body), .bool true]) ∧ w' = w := by
  have HP := Lib.hid (hasPre_yes body w)
  have h2 : (2 : Int) ≤ (bsB (27 :: 91 :: body)).size := by rw [bsB_size]; simp; omega
  have he : (bsB (27 :: 91 :: body)).extract 2 (bsB (27 :: 91 :: body)).size = bsB body := by
    rw [bs_extract, bsB_size]
    simp
  generalize bsB (27 :: 91 :: body) = S at *
  have HC : Hid (Calls Tryd.prog 42 #[.string S, .string ⟨#[27, 91]⟩] w fun e w' => e = .returned (.tuple #[.string (bsB body), .bool true]) ∧ w' = w) := by
    refine Lib.hid ?_
    go_enter Tryd.func42, Tryd.ntmps42
    go_wp2_with (go_at_call 52; (with_reducible refine (HP.out).mono ?_); rintro e w1 ⟨rfl, rfl⟩)
    exact bodyPost_ret (v := .tuple #[.string (bsB body), .bool true]) (by simp [results, Tryd.results42, go_sem]) rfl ⟨rfl, rfl⟩
  clear HP h2 he
  go_enter Tryd.func29, Tryd.ntmps29
  go_wp2_with (go_at_call 42; (with_reducible refine (HC.out).mono ?_); rintro e w1 ⟨rfl, rfl⟩)
  exact bodyPost_ret (v := .tuple #[.string (bsB body), .bool true]) (by simp [results, Tryd.results29, go_sem]) rfl ⟨rfl, rfl⟩
theorem cutPre_no (S : ByteArray) (h : S.toList.take 2 ≠ [27, 91]) (w : World) : Calls Tryd.prog 29 #[.string S, .string ⟨#[27, 91]⟩] w fun e w' => e = .returned (.tuple #[.string S, .bool false]) ∧ w' = w := by
  have HP := Lib.hid (hasPre_no S h w)
  have HC : Hid (Calls Tryd.prog 42 #[.string S, .string ⟨#[27, 91]⟩] w fun e w' => e = .returned (.tuple #[.string S, .bool false]) ∧ w' = w) := by
    refine Lib.hid ?_
    clear h
    go_enter Tryd.func42, Tryd.ntmps42
    go_wp2_with (go_at_call 52; (with_reducible refine (HP.out).mono ?_); rintro e w1 ⟨rfl, rfl⟩)
    exact bodyPost_ret (v := .tuple #[.string S, .bool false]) (by simp [results, Tryd.results42, go_sem]) rfl ⟨rfl, rfl⟩
  clear HP h
  go_enter Tryd.func29, Tryd.ntmps29
  go_wp2_with (go_at_call 42; (with_reducible refine (HC.out).mono ?_); rintro e w1 ⟨rfl, rfl⟩)
  exact bodyPost_ret (v := .tuple #[.string S, .bool false]) (by simp [results, Tryd.results29, go_sem]) rfl ⟨rfl, rfl⟩

/-- What a reading of a control sequence answers: the last byte and the groups; or that it is none. -/
def ErrPost (w : World) (e : Ending) (w' : World) : Prop := e = .returned (.tuple #[.int .u8 0, .slice none 0 0, .int .i64 4]) ∧ Below w.heap.size w w'
def OkPost (z : UInt8) (mid : List UInt8) (w : World) (e : Ending) (w' : World) : Prop := ∃ A c, e = .returned (.tuple #[.int .u8 z.toNat, .slice A (HZ mid).length c, .int .i64 0]) ∧ RG w' w'.heap.size A (HZ mid) ∧ Below w.heap.size w w'
set_option maxRecDepth 100000 in
set_option maxHeartbeats 4000000 in
theorem read_no (S : ByteArray) (h : S.toList.take 2 ≠ [27, 91]) (w : World) : Calls Tryd.prog 15 #[.string S] w (ErrPost w) := by
  have HC := Lib.hid (cutPre_no S h w)
  clear h
  unfold ErrPost
  go_enter Tryd.func15, Tryd.ntmps15
  go_wp2_with (go_at_call 29; (with_reducible refine (HC.out).mono ?_); rintro e w1 ⟨rfl, rfl⟩)
  exact bodyPost_ret (v := .tuple #[.int .u8 0, .slice none 0 0, .int .i64 4]) (by simp [results, Tryd.results15, go_sem]) rfl ⟨rfl, Below.refl _ _⟩
set_option maxRecDepth 100000 in
set_option maxHeartbeats 4000000 in
theorem read_empty (w : World) : Calls Tryd.prog 15 #[.string (bsB [27, 91])] w (ErrPost w) := by
  have HC : Hid (Calls Tryd.prog 29 #[.string (bsB [27, 91]), .string ⟨#[27, 91]⟩] w fun e w' => e = .returned (.tuple #[.string (bsB []), .bool true]) ∧ w' = w) := Lib.hid (cutPre_yes [] w)
  have he : (bsB []).toList.isEmpty = true := by rw [bs_toList]; rfl
  generalize bsB [] = T at *
  generalize bsB [27, 91] = S at *
  unfold ErrPost
  go_enter Tryd.func15, Tryd.ntmps15
  go_wp2_with (go_at_call 29; (with_reducible refine (HC.out).mono ?_); rintro e w1 ⟨rfl, rfl⟩)
  exact bodyPost_ret (v := .tuple #[.int .u8 0, .slice none 0 0, .int .i64 4]) (by simp [results, Tryd.results15, go_sem]) rfl ⟨rfl, Below.refl _ _⟩
end Go.Proofs.YtlolbfbkoimjkaaDoor
