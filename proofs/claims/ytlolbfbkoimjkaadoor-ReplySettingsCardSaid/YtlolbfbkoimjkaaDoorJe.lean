/- What the listed variables give reply's laws; two numbers that came in, opened. -/
import Derived.Test.YtlolbfbkoimjkaaDoorBn
import Derived.Test.YtlolbfbkoimjkaaDoorJd
namespace Go.Proofs.YtlolbfbkoimjkaaDoor
open Go.ChangeShapes Go.WideShapes Go.ChangeAt Go.WideMaps Go.WideElems Go.RowKit

def laidJ : List (String × DataW Unit) := [("math/bits.deBruijn32tab", Rows.laid_math_bits_deBruijn32tab), ("math/bits.deBruijn64tab", Rows.laid_math_bits_deBruijn64tab), ("internal/strconv.uint64pow10", Rows.laid_internal_strconv_uint64pow10)]
set_option maxRecDepth 100000 in
theorem jt_of_laid {W : World} (h : laidMetH Tryd.prog laidJ W) : T10 W.heap.size W := by
  rw [MakeChecks.laidMetH_plain _ _ _ (by kernel_rfl)] at h
  obtain ⟨ps, ⟨g0, t0, cs0, f0, p0, q0, _, _, _, _, ⟨g1, t1, cs1, f1, p1, q1, _, _, _, _, ⟨g2, t2, cs2, f2, p2, q2, hg2, ht2, hv2, hd2, _, _⟩, _⟩, _⟩, _, _⟩ := h
  obtain rfl := Option.some.inj (gPow.symm.trans hg2)
  obtain rfl := Option.some.inj (tPow.symm.trans ht2)
  rw [powD] at hd2
  refine Lib.tabBelow_of_tabIs ?_
  unfold Lib.TabIs
  rw [hv2, ← Lib.cells_of_tab Tryd.underlying106 Tryd.underlying90 cU64 cPow hd2]
set_option maxRecDepth 100000 in
set_option maxRecDepth 100000 in
/-- The door's own heap meets the condition. -/
theorem doorJ_met (os : Os) (args : Array Value) : laidMetH Tryd.prog laidJ ((World.doorLaid Tryd.prog 400 os).forCall (fun _ _ => 0) ⟨#[], args, []⟩).memory :=
  laidMetH_of_parts3 (fuel := 8) (laidMet_of_run' 8 (by kernel_rfl) (by kernel_rfl)) (by kernel_rfl) (by kernel_rfl)
set_option maxRecDepth 100000 in
theorem cU16 : Tryd.prog.cellsOf 41 = 1 := by kernel_rfl
set_option maxRecDepth 100000 in
theorem cArr16 : Tryd.prog.cellsOf 44 = 2 := by kernel_rfl
set_option maxRecDepth 100000 in
theorem cArr2 : Tryd.prog.cellsOf 30 = 2 := by kernel_rfl
set_option maxRecDepth 100000 in
theorem arr_two {cs : Array Value} (h : cs.size = 2) : ∃ v0 v1, cs = #[v0, v1] := by
  obtain ⟨l⟩ := cs
  match l, h with
  | [v0, v1], _ => exact ⟨v0, v1, rfl⟩
  | [], h => simp at h
  | [_], h => simp at h
  | _ :: _ :: _ :: _, h => simp at h
set_option maxRecDepth 100000 in
/-- Two numbers of 16 bits that came in by value. -/
theorem open_two16 {H : Type} {enc : TypeId × Value → H} {W : World} {base : Nat} {v : Value} {d : DataW H} {p : List MemPlace} (hv : Value.okWide Tryd.prog W .any base 44 v) (h : DataW.Trod enc Tryd.prog W 0 (fun _ => true) true 44 v d p) :
    ∃ a b : Nat, a ≤ 65535 ∧ b ≤ 65535 ∧ v = .agg #[.int .u16 a, .int .u16 b] := by
  simp only [Value.okWide, Tryd.underlying44] at hv
  obtain ⟨cs, rfl, hsz, _⟩ := hv
  rw [cArr16] at hsz
  obtain ⟨v0, v1, rfl⟩ := arr_two hsz
  obtain ⟨fuel, hf⟩ := h
  obtain ⟨xs, m, rfl, _, _, hn, hel⟩ := DataW.trod_array Tryd.underlying44 hf
  rw [cU16] at hel
  have h0 := hel 0 (by omega)
  have h1 := hel 1 (by omega)
  rw [List.getElem?_eq_getElem (by omega)] at h0 h1
  obtain ⟨z0, b0, _, w0⟩ := DataW.trod_int Tryd.underlying41 h0
  obtain ⟨z1, b1, _, w1⟩ := DataW.trod_int Tryd.underlying41 h1
  simp [Value.cells] at b0 b1
  subst b0; subst b1
  have k0 := bounds_u16 w0
  have k1 := bounds_u16 w1
  obtain ⟨a, rfl⟩ := Int.eq_ofNat_of_zero_le k0.1
  obtain ⟨b, rfl⟩ := Int.eq_ofNat_of_zero_le k1.1
  exact ⟨a, b, by omega, by omega, rfl⟩
set_option maxRecDepth 100000 in
/-- Two numbers that came in by value. -/
theorem open_two {H : Type} {enc : TypeId × Value → H} {W : World} {base : Nat} {v : Value} {d : DataW H} {p : List MemPlace} (hv : Value.okWide Tryd.prog W .any base 30 v) (h : DataW.Trod enc Tryd.prog W 0 (fun _ => true) true 30 v d p) :
    ∃ a b : Int, v = .agg #[.int .i64 a, .int .i64 b] := by
  simp only [Value.okWide, Tryd.underlying30] at hv
  obtain ⟨cs, rfl, hsz, _⟩ := hv
  rw [cArr2] at hsz
  obtain ⟨v0, v1, rfl⟩ := arr_two hsz
  obtain ⟨fuel, hf⟩ := h
  obtain ⟨xs, m, rfl, _, _, hn, hel⟩ := DataW.trod_array Tryd.underlying30 hf
  rw [cIn] at hel
  have h0 := hel 0 (by omega)
  have h1 := hel 1 (by omega)
  rw [List.getElem?_eq_getElem (by omega)] at h0 h1
  obtain ⟨z0, b0, _⟩ := DataW.trod_int Tryd.underlying3 h0
  obtain ⟨z1, b1, _⟩ := DataW.trod_int Tryd.underlying3 h1
  simp [Value.cells] at b0 b1
  subst b0; subst b1
  exact ⟨z0, z1, rfl⟩

end Go.Proofs.YtlolbfbkoimjkaaDoor
