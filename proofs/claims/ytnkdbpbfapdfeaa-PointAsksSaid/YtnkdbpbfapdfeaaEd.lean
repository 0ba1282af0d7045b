/- Places held against each other; awake; Less, Later and Clamp; the laws ShiftMoves, ShiftBack, ShiftPlaces. -/
import Derived.Test.YtnkdbpbfapdfeaaEc
namespace Go.Proofs.Ytnkdbpbfapdfeaa
open Go.RowKit

theorem two_of {α : Type} {l : List α} (h : l.length = 2) : ∃ a b, l = [a, b] := by
  match l, h with
  | [a, b], _ => exact ⟨a, b, rfl⟩
  | [], h => simp at h
  | [_], h => simp at h
  | _ :: _ :: _ :: _, h => simp at h
theorem eqI (w : World) (x y : Int) : (Op.equalIn 9999 3 (.int .i64 x) (.int .i64 y)).run Try.prog w = .ok (x == y) w :=
  run_equalIn_int w 9998 3 .i64 .i64 x y Try.underlying3
theorem eqPos (w : World) (a b c d : Int) : (Op.equalIn 10000 30 (.agg #[.int .i64 a, .int .i64 b]) (.agg #[.int .i64 c, .int .i64 d])).run Try.prog w = .ok (a == c && b == d) w := by
  rw [run_equalIn_struct w 9999 30 _ _ (by kernel_rfl) (by kernel_rfl)]
  have e : (Try.prog.fieldsOf 30).toList.map (fun f => (f.name, f.type, f.offset)) = [("Row", 3, 0), ("Col", 3, 1)] := by kernel_rfl
  generalize (Try.prog.fieldsOf 30).toList = fs at e ⊢
  obtain ⟨f0, f1, rfl⟩ := two_of (by simpa using congrArg List.length e)
  simp only [List.map_cons, List.map_nil, List.cons.injEq, Prod.mk.injEq, and_true] at e
  obtain ⟨⟨n0, t0, o0⟩, ⟨n1, t1, o1⟩⟩ := e
  by_cases h : a = c
  · by_cases h' : b = d
    · simp [Op.eqFields, n0, t0, o0, n1, t1, o1, part, eqI, h, h']
    · simp [Op.eqFields, n0, t0, o0, n1, t1, o1, part, eqI, h, h']
  · simp [Op.eqFields, n0, t0, o0, n1, t1, o1, part, eqI, h]
theorem eqPos_self (w : World) (a b : Int) : (Op.equalIn 10000 30 (.agg #[.int .i64 a, .int .i64 b]) (.agg #[.int .i64 a, .int .i64 b])).run Try.prog w = .ok true w := by
  rw [eqPos]
  simp
theorem guardPos : Try.prog.eqGuardType Try.prog.depth 30 = false := by kernel_rfl

end Go.Proofs.Ytnkdbpbfapdfeaa
