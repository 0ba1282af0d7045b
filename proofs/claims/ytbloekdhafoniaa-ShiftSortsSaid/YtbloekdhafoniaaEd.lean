/- Places held against each other; awake; Less, Later and Clamp; the laws ShiftMoves, ShiftBack, ShiftPlaces. -/
import Derived.Test.YtbloekdhafoniaaEc
namespace Go.Proofs.Ytbloekdhafoniaa
open Go.RowKit

theorem two_of {α : Type} {l : List α} (h : l.length = 2) : ∃ a b, l = [a, b] := by
  match l, h with
  | [a, b], _ => exact ⟨a, b, rfl⟩
  | [], h => simp at h
  | [_], h => simp at h
  | _ :: _ :: _ :: _, h => simp at h
theorem eqI (w : World) (x y : Int) : (Op.equalIn 9999 3 (.int .i64 x) (.int .i64 y)).run Try.prog w = .ok (x == y) w :=
  run_equalIn_int w 9998 3 .i64 .i64 x y Try.underlying3
theorem eqPos (w : World) (a b c d : Int) : (Op.equalIn 10000 23 (.agg #[.int .i64 a, .int .i64 b]) (.agg #[.int .i64 c, .int .i64 d])).run Try.prog w = .ok (a == c && b == d) w := by
  rw [run_equalIn_struct w 9999 23 _ _ (by kernel_rfl) (by kernel_rfl)]
  have e : (Try.prog.fieldsOf 23).toList.map (fun f => (f.name, f.type, f.offset)) = [("Row", 3, 0), ("Col", 3, 1)] := by kernel_rfl
  generalize (Try.prog.fieldsOf 23).toList = fs at e ⊢
  obtain ⟨f0, f1, rfl⟩ := two_of (by simpa using congrArg List.length e)
  simp only [List.map_cons, List.map_nil, List.cons.injEq, Prod.mk.injEq, and_true] at e
  obtain ⟨⟨n0, t0, o0⟩, ⟨n1, t1, o1⟩⟩ := e
  by_cases h : a = c
  · by_cases h' : b = d
    · simp [Op.eqFields, n0, t0, o0, n1, t1, o1, part, eqI, h, h']
    · simp [Op.eqFields, n0, t0, o0, n1, t1, o1, part, eqI, h, h']
  · simp [Op.eqFields, n0, t0, o0, n1, t1, o1, part, eqI, h]
theorem eqPos_self (w : World) (a b : Int) : (Op.equalIn 10000 23 (.agg #[.int .i64 a, .int .i64 b]) (.agg #[.int .i64 a, .int .i64 b])).run Try.prog w = .ok true w := by
  rw [eqPos]
  simp
theorem guardPos : Try.prog.eqGuardType Try.prog.depth 23 = false := by kernel_rfl

set_option maxHeartbeats 1000000 in
theorem awake_any (w : World) : Calls Try.prog 16 #[] w fun e w' => e = .returned (.bool true) ∧ Below w.heap.size w w' := by
  have H1 := Lib.hid (move_any 6 1 1 3 2)
  have H2 := Lib.hid (move_any 4 1 1 3 2)
  rw [show moveZ 6 1 1 3 2 = (4, 1) by decide] at H1
  rw [show moveZ 4 1 1 3 2 = (3, 0) by decide] at H2
  have E1 := fun W => eqPos_self W 4 1
  have E2 := fun W => eqPos_self W 3 0
  have hg := guardPos
  go_enter Try.func16, Try.ntmps16
  go_wp2_with (first
    | (go_at_call 12; (with_reducible refine (H1.out _).mono ?_); rintro e w1 ⟨rfl, hb⟩; have y0 := keep hb (heap_alloc_new w _); have c0 := cell_of_row _ _ 0 _ _ _ y0; have c1 := cell_of_row _ _ 1 _ _ _ y0; have c2 := cell_of_row _ _ 2 _ _ _ y0; have HB1 := Lib.hid (bel0 (belA (Below.refl _ _) _) hb); clear hb y0)
    | (go_at_call 12; (with_reducible refine (H2.out _).mono ?_); rintro e w2 ⟨rfl, hb⟩; have HB2 := Lib.hid (bel0 HB1.out hb); clear hb))
  go_ret
  exact ⟨rfl, HB2.out⟩
end Go.Proofs.Ytbloekdhafoniaa
