/- The walk of the document's Text. -/
import Derived.Test.YtlolbfbkoimjkaaDoorBh
import Derived.Test.YtlolbfbkoimjkaaDoorBa
import Derived.Deep.RegionHeld3
namespace Go.Proofs.YtlolbfbkoimjkaaDoor
open Go.RowKit

set_option maxHeartbeats 1000000 in
set_option maxRecDepth 100000 in
theorem hasF_same (n f : Int) (h0 : 0 ≤ n) (h63 : n < 1024) (hf : 0 < f) (w : World) : Calls Tryd.prog 40 #[.int .i64 n, .int .i64 f] w fun e w' => e = .returned (.bool (hasB n f)) ∧ w' = w := by
  rw [show hasB n f = (n / f % 2 == 1) from if_neg (by omega)]
  have hd : decide (n < 0) = false := decide_eq_false (by omega)
  have hz : (f == 0) = false := by simp; omega
  have hz' : f ≠ 0 := by omega
  have hq0 : 0 ≤ n / f := Int.ediv_nonneg h0 (by omega)
  have hq1 : n / f ≤ n := Int.ediv_le_self _ h0
  have e8 : n.tdiv f = n / f := Int.tdiv_eq_ediv_of_nonneg h0
  generalize n / f = q at *
  have m8 : q.tmod 2 = q % 2 := Int.tmod_eq_emod_of_nonneg hq0
  have w8 : wrap64 q = q := IntWalk.wrap64_in q (by omega)
  have w9 : IntKind.i64.wrap q = q := IntWalk.i64_in q (by omega)
  clear hq0 hq1
  go_enter Tryd.func40, Tryd.ntmps40
  go_wp2
  go_ret
  exact ⟨by simp_all, rfl⟩
def flagsL : List (Int × Int) := [(1, 1), (2, 2), (3, 4), (4, 8), (5, 16), (7, 32), (8, 64), (9, 128), (21, 256), (53, 512)]
def fN (k : Nat) : Int := (flagsL[k]?.getD (0, 0)).1
def fF (k : Nat) : Int := (flagsL[k]?.getD (0, 0)).2
def refNums (f : Int) (k : Nat) : List Int := ((flagsL.take k).filter fun r => hasB f r.2).map (·.1)
set_option maxRecDepth 100000 in
theorem refNums_step (f : Int) (k : Nat) (hk : k < 10) : refNums f (k + 1) = refNums f k ++ (if hasB f (fF k) = true then [fN k] else []) := by
  have hl : flagsL.length = 10 := rfl
  unfold refNums
  rw [List.take_succ_eq_append_getElem (by omega), List.filter_append, List.map_append]
  congr 1
  unfold fF fN
  rw [List.getElem?_eq_getElem (by omega), Option.getD_some]
  rw [List.filter_cons]
  split <;> rfl
set_option maxRecDepth 100000 in
theorem nums_same : ∀ n : Fin 1024, refNums ((n : Nat) : Int) 10 = flagNums ((n : Nat) : Int) 18 := by decide +kernel
set_option maxRecDepth 100000 in
theorem fNF_range (k : Nat) (hk : k < 10) : (0 ≤ fN k ∧ fN k ≤ 53) ∧ 0 < fF k := by
  rcases (by omega : k = 0 ∨ k = 1 ∨ k = 2 ∨ k = 3 ∨ k = 4 ∨ k = 5 ∨ k = 6 ∨ k = 7 ∨ k = 8 ∨ k = 9) with rfl | rfl | rfl | rfl | rfl | rfl | rfl | rfl | rfl | rfl <;> decide
def flagCells : Array Value := #[.int .i64 1, .int .i64 1, .int .i64 2, .int .i64 2, .int .i64 3, .int .i64 4, .int .i64 4, .int .i64 8, .int .i64 5, .int .i64 16, .int .i64 7, .int .i64 32, .int .i64 8, .int .i64 64, .int .i64 9, .int .i64 128, .int .i64 21, .int .i64 256, .int .i64 53, .int .i64 512]
set_option maxRecDepth 100000 in
theorem flagCells_at (k : Nat) (hk : k < 10) : flagCells[2 * k]? = some (.int .i64 (fN k)) ∧ flagCells[2 * k + 1]? = some (.int .i64 (fF k)) := by
  rcases (by omega : k = 0 ∨ k = 1 ∨ k = 2 ∨ k = 3 ∨ k = 4 ∨ k = 5 ∨ k = 6 ∨ k = 7 ∨ k = 8 ∨ k = 9) with rfl | rfl | rfl | rfl | rfl | rfl | rfl | rfl | rfl | rfl <;> exact ⟨rfl, rfl⟩
def FlagsPost (w : World) (e : Ending) (w' : World) : Prop := e = .returned (.slice (some ⟨w.heap.size, 0, none⟩) 10 10) ∧ w' = w.alloc (.cells flagCells 30)
set_option maxRecDepth 100000 in
theorem flags_any (w : World) : Calls Tryd.prog 41 #[] w (FlagsPost w) := by
  unfold FlagsPost flagCells
  go_enter Tryd.func41, Tryd.ntmps41
  go_wp2
  go_ret
  exact ⟨rfl, rfl⟩


end Go.Proofs.YtlolbfbkoimjkaaDoor
