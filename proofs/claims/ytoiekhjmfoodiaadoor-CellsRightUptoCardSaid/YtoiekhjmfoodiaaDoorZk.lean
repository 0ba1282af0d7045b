/- What the listed variables give CellsKeep and CellsRight: both widths' and utf8's tables. -/
import Derived.Test.YtoiekhjmfoodiaaDoorYx
import Derived.Test.YtoiekhjmfoodiaaDoorZi
import Derived.PinnedBridge
import Derived.Lib.LaidU8
namespace Go.Proofs.YtoiekhjmfoodiaaDoor
open Go.ChangeShapes Go.WideShapes Go.ChangeAt Go.WideMaps Go.WideElems Go.RowKit

set_option maxRecDepth 100000 in
theorem c5 : Tryd.prog.cellsOf 5 = 1 := by kernel_rfl
set_option maxRecDepth 100000 in
theorem c256 : Tryd.prog.cellsOf 98 = 256 := by kernel_rfl
set_option maxRecDepth 100000 in
theorem cPair : Tryd.prog.cellsOf 100 = 2 := by kernel_rfl
set_option maxRecDepth 100000 in
theorem gFirst : Tryd.prog.globalNamed "unicode/utf8.first" = some 2 := by kernel_rfl
set_option maxRecDepth 100000 in
theorem gAccept : Tryd.prog.globalNamed "unicode/utf8.acceptRanges" = some 3 := by kernel_rfl
set_option maxRecDepth 100000 in
theorem tFirst : (Tryd.prog.globals[2]?).map (·.type) = some 98 := by kernel_rfl
set_option maxRecDepth 100000 in
theorem tAccept : (Tryd.prog.globals[3]?).map (·.type) = some 101 := by kernel_rfl
set_option maxRecDepth 100000 in
theorem firstD : Rows.laid_unicode_utf8_first = Lib.firstData := Pinned.utf8First_eq
set_option maxRecDepth 100000 in
theorem acceptD : (Rows.laid_unicode_utf8_acceptRanges : DataW Unit) = Lib.acceptData := by kernel_rfl
set_option maxRecDepth 100000 in
theorem gt_of_laid {W : World} (h : laidMetH Tryd.prog laidG W) : GT W := by
  have hW := wt_of_laid h
  rw [MakeChecks.laidMetH_plain _ _ _ (by kernel_rfl)] at h
  obtain ⟨ps, ⟨g0, t0, cs0, f0, p0, q0, hg0, ht0, hv0, hd0, ⟨gM, tM, csM, fM, pM, qM, _, _, _, _, ⟨gN, tN, csN, fN, pN, qN, _, _, _, _, ⟨g1, t1, cs1, f1, p1, q1, hg1, ht1, hv1, hd1, _, _⟩, _⟩, _⟩, _⟩, _, _⟩ := h
  obtain rfl := Option.some.inj (gAccept.symm.trans hg0)
  obtain rfl := Option.some.inj (gFirst.symm.trans hg1)
  obtain rfl := Option.some.inj (tAccept.symm.trans ht0)
  obtain rfl := Option.some.inj (tFirst.symm.trans ht1)
  rw [acceptD] at hd0
  rw [firstD] at hd1
  have hU : UT W := by
    refine ⟨⟨fun c hc => ?_, fun i hi => ?_⟩, var_lt hg1 hv1, var_lt hg0 hv0⟩
    · have hcs := Lib.cells_of_tab Tryd.underlying98 Tryd.underlying5 c5 c256 hd1
      rw [World.var?_cell hg1 hv1 c, ← Array.getElem?_toList, hcs]
      simp [Lib.firstTab, hc]
    · obtain ⟨fuel', d, q, hdi, he⟩ := Lib.array_elem Tryd.underlying101 hd0 i hi
      simp only [List.getElem?_map, List.getElem?_range hi, Option.map_some, Option.some.injEq] at hdi
      subst hdi
      rw [cPair] at he
      have hcs := Lib.ints_of_struct Tryd.underlying100 (fun j f hj => by
        match j, hj with
        | 0, hj => simp at hj; subst hj; exact ⟨Tryd.underlying5, rfl, c5⟩
        | 1, hj => simp at hj; subst hj; exact ⟨Tryd.underlying5, rfl, c5⟩
        | j + 2, hj => simp at hj) (by rw [cPair]; rfl) he
      have e0 := congrArg (·[0]?) hcs
      have e1 := congrArg (·[1]?) hcs
      simp only [List.getElem?_take, List.getElem?_drop] at e0 e1
      constructor
      · rw [World.var?_cell hg0 hv0 (2 * i), ← Array.getElem?_toList]
        simpa [Nat.mul_comm] using e0
      · rw [World.var?_cell hg0 hv0 (2 * i + 1), ← Array.getElem?_toList]
        simpa [Nat.mul_comm] using e1
  exact ⟨hW, by have h1 := hU.2.1; have h2 := hU.2.2; omega, hU⟩
end Go.Proofs.YtoiekhjmfoodiaaDoor
