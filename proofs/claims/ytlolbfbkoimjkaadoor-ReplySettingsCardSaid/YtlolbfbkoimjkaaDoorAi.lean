/- The walk of turned: the table of turns. -/
import Derived.Test.YtlolbfbkoimjkaaDoorAh
import Derived.LoopN
import Derived.Laws.Rows
namespace Go.Proofs.YtlolbfbkoimjkaaDoor
open Go.RowKit

def turnsL : List (Int × Int × Int) := [(1, 1, 0), (2, 2, 0), (3, 4, 0), (4, 8, 256), (5, 16, 0), (7, 32, 0), (8, 64, 0), (9, 128, 0), (21, 256, 8), (22, 0, 3), (23, 0, 4), (24, 0, 264), (25, 0, 16), (27, 0, 32), (28, 0, 64), (29, 0, 128), (53, 512, 0), (55, 0, 512)]
def rowN (k : Nat) : Int := (turnsL[k]?.getD (0, 0, 0)).1
def rowOn (k : Nat) : Int := (turnsL[k]?.getD (0, 0, 0)).2.1
def rowOff (k : Nat) : Int := (turnsL[k]?.getD (0, 0, 0)).2.2
def turnsA : Array Value := #[.int .i64 1, .int .i64 1, .int .i64 0, .int .i64 2, .int .i64 2, .int .i64 0, .int .i64 3, .int .i64 4, .int .i64 0, .int .i64 4, .int .i64 8, .int .i64 256, .int .i64 5, .int .i64 16, .int .i64 0, .int .i64 7, .int .i64 32, .int .i64 0, .int .i64 8, .int .i64 64, .int .i64 0, .int .i64 9, .int .i64 128, .int .i64 0, .int .i64 21, .int .i64 256, .int .i64 8, .int .i64 22, .int .i64 0, .int .i64 3, .int .i64 23, .int .i64 0, .int .i64 4, .int .i64 24, .int .i64 0, .int .i64 264, .int .i64 25, .int .i64 0, .int .i64 16, .int .i64 27, .int .i64 0, .int .i64 32, .int .i64 28, .int .i64 0, .int .i64 64, .int .i64 29, .int .i64 0, .int .i64 128, .int .i64 53, .int .i64 512, .int .i64 0, .int .i64 55, .int .i64 0, .int .i64 512]
/-- The table of turns lies in its place. -/
def TT (w : World) : Prop := ∃ t fr, w.heap[0]? = some (.cells turnsA t fr)
set_option maxRecDepth 100000 in
theorem TT.below {w w' : World} (h : TT w) (hb : Below w.heap.size w w') : TT w' := by
  obtain ⟨t, fr, h⟩ := h
  exact ⟨t, fr, (hb.block _ (Array.getElem?_eq_some_iff.1 h).1).trans h⟩
set_option maxRecDepth 100000 in
theorem turns_index (k : Nat) (hk : k < 18) (w : World) : (Instr.index 63 (.agg turnsA) (.int .i64 k)).run Tryd.prog w = .ok (.agg #[.int .i64 (rowN k), .int .i64 (rowOn k), .int .i64 (rowOff k)]) w := by
  rcases (by omega : k = 0 ∨ k = 1 ∨ k = 2 ∨ k = 3 ∨ k = 4 ∨ k = 5 ∨ k = 6 ∨ k = 7 ∨ k = 8 ∨ k = 9 ∨ k = 10 ∨ k = 11 ∨ k = 12 ∨ k = 13 ∨ k = 14 ∨ k = 15 ∨ k = 16 ∨ k = 17) with rfl | rfl | rfl | rfl | rfl | rfl | rfl | rfl | rfl | rfl | rfl | rfl | rfl | rfl | rfl | rfl | rfl | rfl
  · exact (by kernel_rfl : (Instr.index 63 (.agg turnsA) (.int .i64 0)).run Tryd.prog w = .ok (.agg #[.int .i64 1, .int .i64 1, .int .i64 0]) w)
  · exact (by kernel_rfl : (Instr.index 63 (.agg turnsA) (.int .i64 1)).run Tryd.prog w = .ok (.agg #[.int .i64 2, .int .i64 2, .int .i64 0]) w)
  · exact (by kernel_rfl : (Instr.index 63 (.agg turnsA) (.int .i64 2)).run Tryd.prog w = .ok (.agg #[.int .i64 3, .int .i64 4, .int .i64 0]) w)
  · exact (by kernel_rfl : (Instr.index 63 (.agg turnsA) (.int .i64 3)).run Tryd.prog w = .ok (.agg #[.int .i64 4, .int .i64 8, .int .i64 256]) w)
  · exact (by kernel_rfl : (Instr.index 63 (.agg turnsA) (.int .i64 4)).run Tryd.prog w = .ok (.agg #[.int .i64 5, .int .i64 16, .int .i64 0]) w)
  · exact (by kernel_rfl : (Instr.index 63 (.agg turnsA) (.int .i64 5)).run Tryd.prog w = .ok (.agg #[.int .i64 7, .int .i64 32, .int .i64 0]) w)
  · exact (by kernel_rfl : (Instr.index 63 (.agg turnsA) (.int .i64 6)).run Tryd.prog w = .ok (.agg #[.int .i64 8, .int .i64 64, .int .i64 0]) w)
  · exact (by kernel_rfl : (Instr.index 63 (.agg turnsA) (.int .i64 7)).run Tryd.prog w = .ok (.agg #[.int .i64 9, .int .i64 128, .int .i64 0]) w)
  · exact (by kernel_rfl : (Instr.index 63 (.agg turnsA) (.int .i64 8)).run Tryd.prog w = .ok (.agg #[.int .i64 21, .int .i64 256, .int .i64 8]) w)
  · exact (by kernel_rfl : (Instr.index 63 (.agg turnsA) (.int .i64 9)).run Tryd.prog w = .ok (.agg #[.int .i64 22, .int .i64 0, .int .i64 3]) w)
  · exact (by kernel_rfl : (Instr.index 63 (.agg turnsA) (.int .i64 10)).run Tryd.prog w = .ok (.agg #[.int .i64 23, .int .i64 0, .int .i64 4]) w)
  · exact (by kernel_rfl : (Instr.index 63 (.agg turnsA) (.int .i64 11)).run Tryd.prog w = .ok (.agg #[.int .i64 24, .int .i64 0, .int .i64 264]) w)
  · exact (by kernel_rfl : (Instr.index 63 (.agg turnsA) (.int .i64 12)).run Tryd.prog w = .ok (.agg #[.int .i64 25, .int .i64 0, .int .i64 16]) w)
  · exact (by kernel_rfl : (Instr.index 63 (.agg turnsA) (.int .i64 13)).run Tryd.prog w = .ok (.agg #[.int .i64 27, .int .i64 0, .int .i64 32]) w)
  · exact (by kernel_rfl : (Instr.index 63 (.agg turnsA) (.int .i64 14)).run Tryd.prog w = .ok (.agg #[.int .i64 28, .int .i64 0, .int .i64 64]) w)
  · exact (by kernel_rfl : (Instr.index 63 (.agg turnsA) (.int .i64 15)).run Tryd.prog w = .ok (.agg #[.int .i64 29, .int .i64 0, .int .i64 128]) w)
  · exact (by kernel_rfl : (Instr.index 63 (.agg turnsA) (.int .i64 16)).run Tryd.prog w = .ok (.agg #[.int .i64 53, .int .i64 512, .int .i64 0]) w)
  · exact (by kernel_rfl : (Instr.index 63 (.agg turnsA) (.int .i64 17)).run Tryd.prog w = .ok (.agg #[.int .i64 55, .int .i64 0, .int .i64 512]) w)

/-- What a number makes of flags, row by row. -/
def turnFrom (f v : Int) : Nat → Int
  | 0 => f
  | k + 1 => if rowN (17 - k) = v then bits .or .i64 (bits .andNot .i64 f (rowOff (17 - k))) (rowOn (17 - k)) else turnFrom f v k
def turnZ (f v : Int) : Int := turnFrom f v 18

end Go.Proofs.YtlolbfbkoimjkaaDoor
