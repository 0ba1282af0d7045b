/- Shifts, plainly: numbers, places, shifts; what isNumber, isPlace, begin and Right answer; the document's Right. -/
import Derived.Test.YtnkdbpbfapdfeaaKa
import Derived.Laws.StructEq
namespace Go.Proofs.Ytnkdbpbfapdfeaa
open Go.RowKit

def num (n : Int) : Bool := decide (0 ≤ n ∧ n ≤ 1099511627776)
def okP (r c : Int) : Bool := num r && num c
def okK (k : Int) : Bool := decide (0 ≤ k ∧ k ≤ 2)
def okS (k a n : Int) : Bool := okK k && num a && num n && decide (1 ≤ n)
def begZ (k a : Int) : Int := if k = 2 then 0 else a
def lostB (r c k a n : Int) : Bool := okP r c && okS k a n && decide (k ≠ 0) && decide (begZ k a ≤ r) && decide (r < begZ k a + n)
def moveZ (r c k a n : Int) : Int × Int :=
  if okP r c = false ∨ okS k a n = false ∨ r < begZ k a then (r, c)
  else if k = 0 then (r + n, c)
  else if r < begZ k a + n then (begZ k a, 0)
  else (r - n, c)

theorem num_t {n : Int} (h : num n = true) : 0 ≤ n ∧ n ≤ 1099511627776 := of_decide_eq_true h
theorem num_f {n : Int} (h : num n = false) : n < 0 ∨ 1099511627776 < n := by
  have := of_decide_eq_false h
  omega

theorem isNumber_as (n : Int) (b : Bool) (h : num n = b) (w : World) : Calls Try.prog 56 #[.int .i64 n] w fun e w' => e = .returned (.bool b) ∧ w = w' := by
  cases b with
  | true =>
    obtain ⟨h1, h2⟩ := num_t h
    clear h
    go_enter Try.func56, Try.ntmps56
    go_wp2
    go_ret
    exact ⟨by simp_all, rfl⟩
  | false =>
    have h1 := num_f h
    clear h
    by_cases h0 : 0 ≤ n
    · have h2 : ¬ n ≤ 1099511627776 := by omega
      have h3 : decide (n ≤ 1099511627776) = false := decide_eq_false h2
      clear h1 h2
      go_enter Try.func56, Try.ntmps56
      go_wp2
      go_ret
      exact ⟨by simp_all, rfl⟩
    · have h3 : n < 0 := by omega
      clear h0 h1
      go_enter Try.func56, Try.ntmps56
      go_wp2
      go_ret
      exact ⟨by simp_all, rfl⟩
theorem refRight_as (n : Int) (b : Bool) (h : num n = b) (w : World) : Calls Try.prog 23 #[.int .i64 n] w fun e w' => e = .returned (.bool b) ∧ w = w' := by
  cases b with
  | true =>
    obtain ⟨h1, h2⟩ := num_t h
    clear h
    go_enter Try.func23, Try.ntmps23
    go_wp2
    go_ret
    exact ⟨by simp_all, rfl⟩
  | false =>
    have h1 := num_f h
    clear h
    by_cases h0 : 0 ≤ n
    · have h2 : ¬ n ≤ 1099511627776 := by omega
      have h3 : decide (n ≤ 1099511627776) = false := decide_eq_false h2
      clear h1 h2
      go_enter Try.func23, Try.ntmps23
      go_wp2
      go_ret
      exact ⟨by simp_all, rfl⟩
    · have h3 : n < 0 := by omega
      clear h0 h1
      go_enter Try.func23, Try.ntmps23
      go_wp2
      go_ret
      exact ⟨by simp_all, rfl⟩
theorem isPlace_as (r c : Int) (b : Bool) (h : okP r c = b) (w : World) : Calls Try.prog 50 #[.agg #[.int .i64 r, .int .i64 c]] w fun e w' => e = .returned (.bool b) ∧ w.alloc (.cells #[.int .i64 r, .int .i64 c] 30) = w' := by
  cases h1 : num r <;> cases h2 : num c
  all_goals
    obtain rfl : _ = b := by rw [← h, okP, h1, h2]
    clear h
    have H1 := Lib.hid (isNumber_as r _ h1)
    have H2 := Lib.hid (isNumber_as c _ h2)
    clear h1 h2
    go_enter Try.func50, Try.ntmps50
    go_wp2_with (first
      | (go_at_call 56; (with_reducible refine (H1.out _).mono ?_); rintro e w' ⟨rfl, rfl⟩)
      | (go_at_call 56; (with_reducible refine (H2.out _).mono ?_); rintro e w' ⟨rfl, rfl⟩))
    go_ret
    exact ⟨rfl, rfl⟩
theorem begin_any (k a n : Int) (w : World) : Calls Try.prog 52 #[.agg #[.int .i64 k, .int .i64 a, .int .i64 n]] w fun e w' => e = .returned (.int .i64 (begZ k a)) ∧ w.alloc (.cells #[.int .i64 k, .int .i64 a, .int .i64 n] 32) = w' := by
  by_cases h : k = 2
  · subst h
    rw [show begZ 2 a = 0 from rfl]
    go_enter Try.func52, Try.ntmps52
    go_wp2
    go_ret
    exact ⟨rfl, rfl⟩
  · rw [show begZ k a = a from if_neg h]
    have h2 : (k == 2) = false := by simpa using h
    clear h
    go_enter Try.func52, Try.ntmps52
    go_wp2
    go_ret
    exact ⟨rfl, rfl⟩
end Go.Proofs.Ytnkdbpbfapdfeaa
