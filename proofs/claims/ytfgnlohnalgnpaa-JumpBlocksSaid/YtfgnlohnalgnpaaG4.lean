/- A block held against itself; the law JumpBlocks. -/
import Derived.Laws.StructEq
import Derived.StillTailTactics
import Derived.Test.YtfgnlohnalgnpaaG3
namespace Go.Proofs.Ytfgnlohnalgnpaa
open Go.RowKit

theorem eqI9 (w : World) (x : Int) : (Op.equalIn 9999 3 (.int .i64 x) (.int .i64 x)).run Try.prog w = .ok true w := by
  rw [run_equalIn_int w 9998 3 .i64 .i64 x x Try.underlying3]
  simp
theorem eqI8 (w : World) (x : Int) : (Op.equalIn 9998 3 (.int .i64 x) (.int .i64 x)).run Try.prog w = .ok true w := by
  rw [run_equalIn_int w 9997 3 .i64 .i64 x x Try.underlying3]
  simp
theorem eqU9 (w : World) (x : Int) : (Op.equalIn 9999 26 (.int .u64 x) (.int .u64 x)).run Try.prog w = .ok true w := by
  rw [run_equalIn_int w 9998 26 .u64 .u64 x x Try.underlying26]
  simp
theorem eqB9 (w : World) (x : Bool) : (Op.equalIn 9999 4 (.bool x) (.bool x)).run Try.prog w = .ok true w := by
  rw [run_equalIn_bool w 9998 4 x x Try.underlying4]
  simp
theorem eqS9 (w : World) (x : ByteArray) : (Op.equalIn 9999 9 (.string x) (.string x)).run Try.prog w = .ok true w := by
  rw [run_equalIn_string w 9998 9 x x Try.underlying9]
  simp
theorem cons_of {α : Type} {l : List α} {n : Nat} (h : l.length = n + 1) : ∃ a r, l = a :: r ∧ r.length = n := by
  cases l with
  | nil => simp at h
  | cons a r => exact ⟨a, r, rfl, by simpa using h⟩
theorem eqP9 (w : World) (a b : Int) : (Op.equalIn 9999 37 (.agg #[.int .i64 a, .int .i64 b]) (.agg #[.int .i64 a, .int .i64 b])).run Try.prog w = .ok true w := by
  rw [run_equalIn_struct w 9998 37 _ _ (by kernel_rfl) (by kernel_rfl)]
  have e : (Try.prog.fieldsOf 37).toList.map (fun f => (f.name, f.type, f.offset)) = [("Row", 3, 0), ("Col", 3, 1)] := by kernel_rfl
  generalize (Try.prog.fieldsOf 37).toList = fs at e ⊢
  have hl := congrArg List.length e
  rw [List.length_map] at hl
  obtain ⟨f0, r0, rfl, h0⟩ := cons_of (l := fs) (n := 1) hl
  obtain ⟨f1, r1, rfl, h1⟩ := cons_of (l := r0) (n := 0) h0
  obtain rfl := List.eq_nil_of_length_eq_zero h1
  simp only [List.map_cons, List.map_nil, List.cons.injEq, Prod.mk.injEq, and_true] at e
  obtain ⟨⟨n0, t0, o0⟩, ⟨n1, t1, o1⟩⟩ := e
  simp [Op.eqFields, n0, t0, o0, n1, t1, o1, part, eqI8]
set_option maxHeartbeats 1000000 in
theorem eqBlk (w : World) (x : Bk) : (Op.equalIn 10000 39 (.agg (boxB x)) (.agg (boxB x))).run Try.prog w = .ok true w := by
  rw [run_equalIn_struct w 9999 39 _ _ (by kernel_rfl) (by kernel_rfl)]
  have e : (Try.prog.fieldsOf 39).toList.map (fun f => (f.name, f.type, f.offset)) = [("Id", 26, 0), ("Phase", 3, 1), ("Start", 37, 2), ("Input", 37, 4), ("Output", 37, 6), ("Done", 37, 8), ("Stop", 37, 10), ("Code", 3, 12), ("Has", 4, 13), ("Cut", 4, 14), ("Dir", 9, 15), ("Line", 9, 16)] := by kernel_rfl
  generalize (Try.prog.fieldsOf 39).toList = fs at e ⊢
  have hl := congrArg List.length e
  rw [List.length_map] at hl
  obtain ⟨f0, r0, rfl, h0⟩ := cons_of (l := fs) (n := 11) hl
  obtain ⟨f1, r1, rfl, h1⟩ := cons_of (l := r0) (n := 10) h0
  obtain ⟨f2, r2, rfl, h2⟩ := cons_of (l := r1) (n := 9) h1
  obtain ⟨f3, r3, rfl, h3⟩ := cons_of (l := r2) (n := 8) h2
  obtain ⟨f4, r4, rfl, h4⟩ := cons_of (l := r3) (n := 7) h3
  obtain ⟨f5, r5, rfl, h5⟩ := cons_of (l := r4) (n := 6) h4
  obtain ⟨f6, r6, rfl, h6⟩ := cons_of (l := r5) (n := 5) h5
  obtain ⟨f7, r7, rfl, h7⟩ := cons_of (l := r6) (n := 4) h6
  obtain ⟨f8, r8, rfl, h8⟩ := cons_of (l := r7) (n := 3) h7
  obtain ⟨f9, r9, rfl, h9⟩ := cons_of (l := r8) (n := 2) h8
  obtain ⟨f10, r10, rfl, h10⟩ := cons_of (l := r9) (n := 1) h9
  obtain ⟨f11, r11, rfl, h11⟩ := cons_of (l := r10) (n := 0) h10
  obtain rfl := List.eq_nil_of_length_eq_zero h11
  simp only [List.map_cons, List.map_nil, List.cons.injEq, Prod.mk.injEq, and_true] at e
  obtain ⟨⟨n0, t0, o0⟩, ⟨n1, t1, o1⟩, ⟨n2, t2, o2⟩, ⟨n3, t3, o3⟩, ⟨n4, t4, o4⟩, ⟨n5, t5, o5⟩, ⟨n6, t6, o6⟩, ⟨n7, t7, o7⟩, ⟨n8, t8, o8⟩, ⟨n9, t9, o9⟩, ⟨n10, t10, o10⟩, ⟨n11, t11, o11⟩⟩ := e
  simp [Op.eqFields, n0, t0, o0, n1, t1, o1, n2, t2, o2, n3, t3, o3, n4, t4, o4, n5, t5, o5, n6, t6, o6, n7, t7, o7, n8, t8, o8, n9, t9, o9, n10, t10, o10, n11, t11, o11, part, eqI9, eqU9, eqB9, eqS9, eqP9]
theorem guardBlk : Try.prog.eqGuardType Try.prog.depth 39 = false := by kernel_rfl

end Go.Proofs.Ytfgnlohnalgnpaa
