/- The walks of text and Text. -/
import Derived.Test.YtoiekhjmfoodiaaDoorGu
import Derived.Test.YtoiekhjmfoodiaaDoorGq
import Derived.BigQuiet
namespace Go.Proofs.YtoiekhjmfoodiaaDoor
open Go.RowKit

def scal7 (r : Int) : Bool := decide ((0 ≤ r ∧ r < 55296) ∨ (57343 < r ∧ r ≤ 1114111))
set_option maxRecDepth 100000 in
set_option maxHeartbeats 400000 in
theorem valid7_any (r : Int) (w : World) :
    Calls Tryd.prog 67 #[.int .i32 r] w fun e w' => e = .returned (.bool (scal7 r)) ∧ w = w' := by
  go_enter Tryd.func67, Tryd.ntmps67
  go_wp2
  all_goals
    go_ret
    refine ⟨?_, rfl⟩
    first
      | (have e : scal7 r = true := decide_eq_true (by omega); rw [e]; rfl)
      | (have e : scal7 r = false := decide_eq_false (by omega); rw [e]; rfl)
/-- What utf.Put gives. -/
def put7 (r : Int) : ByteArray := if scal7 r = true then Utf8.encode r else ⟨#[]⟩
set_option maxRecDepth 100000 in
set_option maxHeartbeats 400000 in
theorem put7_any (r : Int) (w : World) :
    Calls Tryd.prog 61 #[.int .i32 r] w fun e w' => e = .returned (.string (put7 r)) ∧ w = w' := by
  have hv := valid7_any r
  by_cases hs : scal7 r = true
  · have HP := Lib.hid (show put7 r = Utf8.encode r from if_pos hs)
    rw [hs] at hv
    clear hs
    generalize put7 r = pr at *
    go_enter Tryd.func61, Tryd.ntmps61
    go_wp2_with (go_at_call 67; refine (hv _).mono ?_; clear hv; rintro e w1 ⟨rfl, rfl⟩)
    go_ret
    exact ⟨by rw [HP.out]; rfl, rfl⟩
  · have hs : scal7 r = false := by simpa using hs
    have HP := Lib.hid (show put7 r = ⟨#[]⟩ by unfold put7; rw [hs]; rfl)
    rw [hs] at hv
    clear hs
    generalize put7 r = pr at *
    go_enter Tryd.func61, Tryd.ntmps61
    go_wp2_with (go_at_call 67; refine (hv _).mono ?_; clear hv; rintro e w1 ⟨rfl, rfl⟩)
    go_ret
    exact ⟨by rw [HP.out]; rfl, rfl⟩
theorem below_drewN7 {B : Nat} {a w : World} (h : Below B a w) (n : Nat) : Below B a (w.drewN n) := ⟨h.os, h.tape, h.output, h.size, h.block⟩
/-- What a cell has of a row's text. -/
def textC (x : CC) : ByteArray := if x.h = 2 ∨ x.h = 3 then ⟨#[]⟩ else if x.r = 0 then ⟨#[32]⟩ else put7 x.r ++ x.m
set_option maxRecDepth 100000 in
set_option maxHeartbeats 4000000 in
theorem text_any (x : CC) (hsz : (put7 x.r).size + x.m.size ≤ 9223372036854775807) (w : World) :
    Calls Tryd.prog 32 #[.agg #[.int .i32 x.r, .string x.m, .int .i64 x.h, .int .i64 x.fk, .int .i64 x.fn, .int .i64 x.bk, .int .i64 x.bn, .int .i64 x.fl]] w fun e w' => e = .returned (.string (textC x)) ∧ Below w.heap.size w w' := by
  have HB := Lib.hid (belA (Below.refl w.heap.size w) (.cells #[.int .i32 x.r, .string x.m, .int .i64 x.h, .int .i64 x.fk, .int .i64 x.fn, .int .i64 x.bk, .int .i64 x.bn, .int .i64 x.fl] 44))
  have HN := Lib.hid fun k => below_drewN7 HB.out k
  by_cases h2 : x.h = 2
  · have HT := Lib.hid (show textC x = ⟨#[]⟩ from if_pos (.inl h2))
    have e1 : (x.h == 2) = true := by simpa using h2
    clear h2
    generalize textC x = t at *
    go_enter Tryd.func32, Tryd.ntmps32
    go_wp2
    go_ret
    exact ⟨by rw [HT.out]; rfl, HB.out⟩
  have e1 : (x.h == 2) = false := by simpa using h2
  by_cases h3 : x.h = 3
  · have HT := Lib.hid (show textC x = ⟨#[]⟩ from if_pos (.inr h3))
    have e3 : (x.h == 3) = true := by simpa using h3
    clear h2 h3
    generalize textC x = t at *
    go_enter Tryd.func32, Tryd.ntmps32
    go_wp2
    go_ret
    exact ⟨by rw [HT.out]; rfl, HB.out⟩
  have e3 : (x.h == 3) = false := by simpa using h3
  by_cases h0 : x.r = 0
  · have HT := Lib.hid (show textC x = ⟨#[32]⟩ by unfold textC; rw [if_neg (by simp [h2, h3]), if_pos h0])
    have e0 : (x.r == 0) = true := by simpa using h0
    clear h2 h3 h0
    generalize textC x = t at *
    go_enter Tryd.func32, Tryd.ntmps32
    go_wp2
    go_ret
    exact ⟨by rw [HT.out]; rfl, HB.out⟩
  · have HT := Lib.hid (show textC x = put7 x.r ++ x.m by unfold textC; rw [if_neg (by simp [h2, h3]), if_neg h0])
    have e0 : (x.r == 0) = false := by simpa using h0
    have HP : Hid (∀ W, Calls Tryd.prog 61 #[.int .i32 x.r] W fun e w' => e = .returned (.string (put7 x.r)) ∧ w' = W) := Lib.hid fun W => (put7_any x.r W).mono fun e w' ⟨he, hw⟩ => ⟨he, hw.symm⟩
    have hn1 : ¬ (9223372036854775807 < (put7 x.r).size + x.m.size) := by omega
    have hn2 : ¬ ((put7 x.r).size + x.m.size > 9223372036854775807) := by omega
    clear h2 h3 h0
    generalize textC x = t at *
    generalize put7 x.r = pr at *
    go_enter Tryd.func32, Tryd.ntmps32
    go_wp2
    have c0 := cell_of_row _ _ 0 _ _ _ (heap_alloc_new w (.cells #[.int .i32 x.r, .string x.m, .int .i64 x.h, .int .i64 x.fk, .int .i64 x.fn, .int .i64 x.bk, .int .i64 x.bn, .int .i64 x.fl] 44))
    have c1 := cell_of_row _ _ 1 _ _ _ (heap_alloc_new w (.cells #[.int .i32 x.r, .string x.m, .int .i64 x.h, .int .i64 x.fk, .int .i64 x.fn, .int .i64 x.bk, .int .i64 x.bn, .int .i64 x.fl] 44))
    generalize w.alloc (.cells #[.int .i32 x.r, .string x.m, .int .i64 x.h, .int .i64 x.fk, .int .i64 x.fn, .int .i64 x.bk, .int .i64 x.bn, .int .i64 x.fl] 44) = w2 at *
    go_quiet ((go_at_call 61; exact Calls.quiet_of_same (HP.out _)))
    go_wp2
    go_ret
    exact ⟨by rw [HT.out]; rfl, HN.out _⟩
end Go.Proofs.YtoiekhjmfoodiaaDoor
