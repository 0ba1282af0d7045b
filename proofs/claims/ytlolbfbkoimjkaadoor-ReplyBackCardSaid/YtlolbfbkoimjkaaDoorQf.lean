/- What the five listed variables give ParamBack's walk: AppendInt's table. -/
import Derived.Test.YtlolbfbkoimjkaaDoorPl
import Derived.Test.YtlolbfbkoimjkaaDoorQe
import Derived.Lib.LaidTab
namespace Go.Proofs.YtlolbfbkoimjkaaDoor
open Go.ChangeShapes Go.WideShapes Go.ChangeAt Go.WideMaps Go.WideElems Go.RowKit

def laidB : List (String × DataW Unit) := [("math/bits.deBruijn32tab", Rows.laid_math_bits_deBruijn32tab), ("math/bits.deBruijn64tab", Rows.laid_math_bits_deBruijn64tab), ("internal/strconv.uint64pow10", Rows.laid_internal_strconv_uint64pow10), ("unicode/utf8.acceptRanges", Rows.laid_unicode_utf8_acceptRanges), ("unicode/utf8.first", Rows.laid_unicode_utf8_first)]
set_option maxRecDepth 100000 in
theorem gPow : Tryd.prog.globalNamed "internal/strconv.uint64pow10" = some 4 := by kernel_rfl
set_option maxRecDepth 100000 in
theorem tPow : (Tryd.prog.globals[4]?).map (·.type) = some 106 := by kernel_rfl
set_option maxRecDepth 100000 in
theorem powD : (Rows.laid_internal_strconv_uint64pow10 : DataW Unit) = Lib.tabData .u64 Lib.pow10Tab := by kernel_rfl
set_option maxRecDepth 100000 in
theorem cU64 : Tryd.prog.cellsOf 90 = 1 := by kernel_rfl
set_option maxRecDepth 100000 in
theorem cPow : Tryd.prog.cellsOf 106 = 20 := by kernel_rfl
set_option maxRecDepth 100000 in
theorem t10_of_laid {W : World} (h : laidMetH Tryd.prog laidB W) : T10 W.heap.size W := by
  rw [MakeChecks.laidMetH_plain _ _ _ (by kernel_rfl)] at h
  obtain ⟨ps, ⟨g0, t0, cs0, f0, p0, q0, _, _, _, _, ⟨g1, t1, cs1, f1, p1, q1, _, _, _, _, ⟨g2, t2, cs2, f2, p2, q2, hg2, ht2, hv2, hd2, _, _⟩, _⟩, _⟩, _, _⟩ := h
  obtain rfl := Option.some.inj (gPow.symm.trans hg2)
  obtain rfl := Option.some.inj (tPow.symm.trans ht2)
  rw [powD] at hd2
  refine Lib.tabBelow_of_tabIs ?_
  unfold Lib.TabIs
  rw [hv2, ← Lib.cells_of_tab Tryd.underlying106 Tryd.underlying90 cU64 cPow hd2]
set_option maxRecDepth 100000 in
/-- A start that fits: the door's own heap, and the pinned table in its place. -/
theorem startB_met (os : Os) (args : Array Value) : laidMetH Tryd.prog laidB (((World.doorLaid Tryd.prog 400 os).setRow 1 ((List.range 256).map fun i => Value.int .u8 (Lib.firstT i : Nat)).toArray).forCall (fun _ _ => 0) ⟨#[], args, []⟩).memory :=
  laidMetH_of_parts3 (fuel := 8) (laidMet_of_run' 8 (by kernel_rfl) (by kernel_rfl)) (by kernel_rfl) (by kernel_rfl)

end Go.Proofs.YtlolbfbkoimjkaaDoor
