/- Colors: held against each other; the walks of rightColor and of the document's color. -/
import Derived.Test.YtlolbfbkoimjkaaDoorKa
import Derived.Laws.StructEq
namespace Go.Proofs.YtlolbfbkoimjkaaDoor
open Go.RowKit

set_option maxRecDepth 100000 in
theorem two_of {α : Type} {l : List α} (h : l.length = 2) : ∃ a b, l = [a, b] := by
  match l, h with
  | [a, b], _ => exact ⟨a, b, rfl⟩
  | [], h => simp at h
  | [_], h => simp at h
  | _ :: _ :: _ :: _, h => simp at h
set_option maxRecDepth 100000 in
theorem eqI (w : World) (x y : Int) : (Op.equalIn 9999 3 (.int .i64 x) (.int .i64 y)).run Tryd.prog w = .ok (x == y) w :=
  run_equalIn_int w 9998 3 .i64 .i64 x y Tryd.underlying3
set_option maxRecDepth 100000 in
theorem eqColor (w : World) (a b c d : Int) : (Op.equalIn 10000 27 (.agg #[.int .i64 a, .int .i64 b]) (.agg #[.int .i64 c, .int .i64 d])).run Tryd.prog w = .ok (a == c && b == d) w := by
  rw [run_equalIn_struct w 9999 27 _ _ (by kernel_rfl) (by kernel_rfl)]
  have e : (Tryd.prog.fieldsOf 27).toList.map (fun f => (f.name, f.type, f.offset)) = [("Kind", 3, 0), ("N", 3, 1)] := by kernel_rfl
  generalize (Tryd.prog.fieldsOf 27).toList = fs at e ⊢
  obtain ⟨f0, f1, rfl⟩ := two_of (by simpa using congrArg List.length e)
  simp only [List.map_cons, List.map_nil, List.cons.injEq, Prod.mk.injEq, and_true] at e
  obtain ⟨⟨n0, t0, o0⟩, ⟨n1, t1, o1⟩⟩ := e
  by_cases h : a = c
  · by_cases h' : b = d
    · simp [Op.eqFields, n0, t0, o0, n1, t1, o1, part, eqI, h, h']
    · simp [Op.eqFields, n0, t0, o0, n1, t1, o1, part, eqI, h, h']
  · simp [Op.eqFields, n0, t0, o0, n1, t1, o1, part, eqI, h]

/-- Whether a color is right. -/
def colorB (k n : Int) : Bool := if k = 1 then decide (0 ≤ n ∧ n ≤ 255) else if k = 2 then decide (0 ≤ n ∧ n ≤ 16777215) else decide (k = 0 ∧ n = 0)

set_option maxHeartbeats 1000000 in
set_option maxRecDepth 100000 in
theorem rightColor_any (k n : Int) (w : World) : Calls Tryd.prog 51 #[.agg #[.int .i64 k, .int .i64 n]] w fun e w' => e = .returned (.bool (colorB k n)) ∧ Below w.heap.size w w' := by
  have hg : Tryd.prog.eqGuardType Tryd.prog.depth 27 = false := by kernel_rfl
  by_cases h1 : k = 1
  · subst h1
    rw [show colorB 1 n = decide (0 ≤ n ∧ n ≤ 255) from rfl]
    by_cases h : 0 ≤ n
    · by_cases h' : n ≤ 255
      · rw [decide_eq_true ⟨h, h'⟩]
        go_enter Tryd.func51, Tryd.ntmps51
        go_wp2
        go_ret
        exact ⟨by simp_all, belA (Below.refl _ _) _⟩
      · rw [decide_eq_false fun hh => h' hh.2]
        have h2 : decide (n ≤ 255) = false := decide_eq_false h'
        clear h'
        go_enter Tryd.func51, Tryd.ntmps51
        go_wp2
        go_ret
        exact ⟨by simp_all, belA (Below.refl _ _) _⟩
    · rw [decide_eq_false fun hh => h hh.1]
      have h2 : n < 0 := by omega
      clear h
      go_enter Tryd.func51, Tryd.ntmps51
      go_wp2
      go_ret
      exact ⟨by simp_all, belA (Below.refl _ _) _⟩
  by_cases h2 : k = 2
  · subst h2
    rw [show colorB 2 n = decide (0 ≤ n ∧ n ≤ 16777215) from rfl]
    clear h1
    by_cases h : 0 ≤ n
    · by_cases h' : n ≤ 16777215
      · rw [decide_eq_true ⟨h, h'⟩]
        go_enter Tryd.func51, Tryd.ntmps51
        go_wp2
        go_ret
        exact ⟨by simp_all, belA (Below.refl _ _) _⟩
      · rw [decide_eq_false fun hh => h' hh.2]
        have h2 : decide (n ≤ 16777215) = false := decide_eq_false h'
        clear h'
        go_enter Tryd.func51, Tryd.ntmps51
        go_wp2
        go_ret
        exact ⟨by simp_all, belA (Below.refl _ _) _⟩
    · rw [decide_eq_false fun hh => h hh.1]
      have h2 : n < 0 := by omega
      clear h
      go_enter Tryd.func51, Tryd.ntmps51
      go_wp2
      go_ret
      exact ⟨by simp_all, belA (Below.refl _ _) _⟩
  have hc : colorB k n = (k == 0 && n == 0) := by
    unfold colorB
    rw [if_neg h1, if_neg h2]
    by_cases a : k = 0 <;> by_cases b : n = 0 <;> simp [a, b]
  rw [hc]
  have b1 : (k == 1) = false := by simpa using h1
  have b2 : (k == 2) = false := by simpa using h2
  have hq := fun W => eqColor W k n 0 0
  clear h1 h2 hc
  generalize (k == 0 && n == 0) = z at *
  go_enter Tryd.func51, Tryd.ntmps51
  go_wp2
  go_ret
  exact ⟨by simp_all, belA (Below.refl _ _) _⟩

end Go.Proofs.YtlolbfbkoimjkaaDoor
