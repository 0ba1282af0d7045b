/- Itoa's table of what is listed; a sign that came in; the laws OscWrites and OscBack at what came in. -/
import Derived.Test.YtkkhlmilcdlfoaaDoorRo
import Derived.Test.YtkkhlmilcdlfoaaDoorSl
namespace Go.Proofs.YtkkhlmilcdlfoaaDoor
open Go.ChangeShapes Go.WideShapes Go.ChangeAt Go.WideMaps Go.WideElems Go.RowKit

theorem gPow : Tryd.prog.globalNamed "internal/strconv.uint64pow10" = some 6 := by kernel_rfl
theorem tPow : (Tryd.prog.globals[6]?).map (·.type) = some 118 := by kernel_rfl
theorem powD : (Rows.laid_internal_strconv_uint64pow10 : DataW Unit) = Lib.tabData .u64 Lib.pow10Tab := by kernel_rfl
theorem cU64 : Tryd.prog.cellsOf 71 = 1 := by kernel_rfl
theorem cPow : Tryd.prog.cellsOf 118 = 20 := by kernel_rfl
set_option maxRecDepth 100000 in
theorem ti_of_laid {W : World} (h : laidMetH Tryd.prog laidX W) : TI W := by
  rw [MakeChecks.laidMetH_plain _ _ _ (by kernel_rfl)] at h
  have h2 := laidMet.tail (laidMet.tail h)
  rw [powD] at h2
  exact Lib.tabIs_of_head gPow tPow Tryd.underlying118 Tryd.underlying71 cU64 cPow h2
theorem cSign : Tryd.prog.cellsOf 24 = 4 := by kernel_rfl
theorem cIntS : Tryd.prog.cellsOf 3 = 1 := by kernel_rfl
theorem cBoolS : Tryd.prog.cellsOf 4 = 1 := by kernel_rfl
theorem cStrS : Tryd.prog.cellsOf 9 = 1 := by kernel_rfl
theorem arr_four {cs : Array Value} (h : cs.size = 4) : ∃ v0 v1 v2 v3, cs = #[v0, v1, v2, v3] := by
  obtain ⟨l⟩ := cs
  match l, h with
  | [v0, v1, v2, v3], _ => exact ⟨v0, v1, v2, v3, rfl⟩
  | [], h => simp at h
  | [_], h => simp at h
  | [_, _], h => simp at h
  | [_, _, _], h => simp at h
  | _ :: _ :: _ :: _ :: _ :: _, h => simp at h
set_option maxRecDepth 100000 in
/-- A sign that came in by value. -/
theorem open_sign {H : Type} {enc : TypeId × Value → H} {W : World} {base : Nat} {v : Value} {d : DataW H} {p : List MemPlace} (hv : Value.okWide Tryd.prog W .any base 24 v) (h : DataW.Trod enc Tryd.prog W 0 (fun _ => true) true 24 v d p) :
    ∃ (k z : Int) (b : Bool) (t : ByteArray), (-9223372036854775808 ≤ z ∧ z ≤ 9223372036854775807) ∧ t.size ≤ maxLen ∧ v = .agg #[.int .i64 k, .int .i64 z, .bool b, .string t] := by
  obtain ⟨cs, rfl, hsz⟩ := okWide_struct Tryd.underlying24 hv
  rw [cSign] at hsz
  obtain ⟨v0, v1, v2, v3, rfl⟩ := arr_four hsz
  obtain ⟨fuel, hf⟩ := h
  obtain ⟨xs, n, rfl, _, _, hl, hel⟩ := DataW.trod_struct Tryd.underlying24 hf
  have h0 : DataW.trod enc Tryd.prog W 0 (fun _ => true) true n 3 (([v0, v1, v2, v3].drop 0).take (Tryd.prog.cellsOf 3)) = xs[0]? := hel 0 _ rfl
  have h1 : DataW.trod enc Tryd.prog W 0 (fun _ => true) true n 3 (([v0, v1, v2, v3].drop 1).take (Tryd.prog.cellsOf 3)) = xs[1]? := hel 1 _ rfl
  have h2 : DataW.trod enc Tryd.prog W 0 (fun _ => true) true n 4 (([v0, v1, v2, v3].drop 2).take (Tryd.prog.cellsOf 4)) = xs[2]? := hel 2 _ rfl
  have h3 : DataW.trod enc Tryd.prog W 0 (fun _ => true) true n 9 (([v0, v1, v2, v3].drop 3).take (Tryd.prog.cellsOf 9)) = xs[3]? := hel 3 _ rfl
  rw [cIntS] at h0 h1
  rw [cBoolS] at h2
  rw [cStrS] at h3
  have hl4 : xs.length = 4 := hl
  rw [List.getElem?_eq_getElem (by omega)] at h0 h1 h2 h3
  simp only [List.drop_zero, List.drop_succ_cons, List.take_succ_cons, List.take_zero] at h0 h1 h2 h3
  obtain ⟨k, e0, _, _⟩ := DataW.trod_int Tryd.underlying3 h0
  obtain ⟨z, e1, _, hw⟩ := DataW.trod_int Tryd.underlying3 h1
  obtain ⟨b, e2, _⟩ := DataW.trod_bool Tryd.underlying4 h2
  obtain ⟨t, e3, _, ht⟩ := DataW.trod_string Tryd.underlying9 h3
  simp only [List.cons.injEq, and_true] at e0 e1 e2 e3
  subst e0; subst e1; subst e2; subst e3
  exact ⟨k, z, b, t, bounds_i64 hw, ht, rfl⟩
theorem oscWrites_arg (k z : Int) (b : Bool) (t : ByteArray) (wz : -9223372036854775808 ≤ z ∧ z ≤ 9223372036854775807) (wt : t.size ≤ maxLen) (w : World) (hO : OT w) (hT : TI w) : Calls Tryd.prog 4 #[.agg #[.int .i64 k, .int .i64 z, .bool b, .string t]] w fun e w' => e = .returned (.bool true) ∧ Below w.heap.size w w' := by
  have h := oscWrites_law k z b t.data.toList (size_of_wf wt) wz.1 wz.2 w hO hT
  rwa [← bs_of t] at h
theorem oscBack_arg (k z : Int) (b : Bool) (t : ByteArray) (w : World) (hO : OT w) (hT : TI w) : Calls Tryd.prog 5 #[.agg #[.int .i64 k, .int .i64 z, .bool b, .string t]] w fun e w' => e = .returned (.bool true) ∧ Below w.heap.size w w' := by
  have h := oscBack_law k z b t.data.toList w hO hT
  rwa [← bs_of t] at h
end Go.Proofs.YtkkhlmilcdlfoaaDoor
