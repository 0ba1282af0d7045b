/- What the listed variables give CellsBlanks; a color that came in, opened. -/
import Derived.Test.YtoiekhjmfoodiaaDoorRows
import Derived.Test.YtoiekhjmfoodiaaDoorGy
import Derived.ProofKit
import Derived.LaidMore
import Derived.OpenShut
import Derived.Stop.Joined
import Derived.PinnedBridge
import Derived.Lib.LaidU8
namespace Go.Proofs.YtoiekhjmfoodiaaDoor
open Go.ChangeShapes Go.WideShapes Go.ChangeAt Go.WideMaps Go.WideElems Go.RowKit

set_option maxRecDepth 100000 in
theorem own : ownKnob Tryd.prog.godebug = none := by kernel_rfl
set_option maxRecDepth 100000 in
theorem laidOut : laidOutB Tryd.prog = true := by kernel_rfl
def pairD {H : Type} (x : Int × Int) : DataW H := .agg [.lit (.int .i32 x.1), .lit (.int .i32 x.2)]
set_option maxRecDepth 100000 in
theorem c21 : Tryd.prog.cellsOf 21 = 1 := by kernel_rfl
set_option maxRecDepth 100000 in
theorem c60 : Tryd.prog.cellsOf 80 = 2 := by kernel_rfl

set_option maxRecDepth 100000 in
theorem cell_of_cut {cs : List Value} {a j : Nat} {v : Value} (hj : j < 2) (h : ((((cs.drop a).take 2).drop (j * 1)).take 1) = [v]) : cs[a + j]? = some v := by
  have h0 : ((((cs.drop a).take 2).drop (j * 1)).take 1)[0]? = some v := by rw [h]; rfl
  rw [List.getElem?_take, if_pos (by omega), List.getElem?_drop, List.getElem?_take, if_pos (by omega), List.getElem?_drop] at h0
  simpa using h0

set_option maxRecDepth 100000 in
theorem pair_of_trod {H : Type} {enc : TypeId × Value → H} {W : World} {base : Nat} {keep : Nat → Bool} {b : Bool} {fuel : Nat} {cs : List Value} {x : Int × Int} {p : List MemPlace}
    (h : DataW.trod enc Tryd.prog W base keep b fuel 80 cs = some (pairD x, p)) : ∀ j, j < 2 → ((cs.drop (j * 1)).take 1) = [.int .i32 (if j = 0 then x.1 else x.2)] := by
  obtain ⟨ys, m, rfl, hx, _, hn, hel⟩ := DataW.trod_array Tryd.underlying80 h
  rw [c21] at hel
  simp only [pairD, Prod.mk.injEq, DataW.agg.injEq] at hx
  obtain ⟨hx, _⟩ := hx
  match ys, hn with
  | [y0, y1], _ =>
    simp only [List.map_cons, List.map_nil, List.cons.injEq, and_true] at hx
    intro j hj
    match j, hj with
    | 0, _ =>
      obtain ⟨k, e1, e2, _⟩ := DataW.trod_int Tryd.underlying21 (show DataW.trod enc Tryd.prog W base keep b m 21 _ = some y0 from hel 0 (by decide))
      have hk : k = x.1 := by rw [e2] at hx; simpa using hx.1.symm
      rw [e1, hk]; rfl
    | 1, _ =>
      obtain ⟨k, e1, e2, _⟩ := DataW.trod_int Tryd.underlying21 (show DataW.trod enc Tryd.prog W base keep b m 21 _ = some y1 from hel 1 (by decide))
      have hk : k = x.2 := by rw [e2] at hx; simpa using hx.2.symm
      rw [e1, hk]; rfl

set_option maxRecDepth 100000 in
theorem tab_of_trod {H : Type} {enc : TypeId × Value → H} {W : World} {base : Nat} {keep : Nat → Bool} {b : Bool} {fuel : Nat} {cs : List Value} {l : List (Int × Int)} {p : List MemPlace} {T n : Nat}
    (hT : Tryd.prog.underlying T = some (.array n 80)) (h : DataW.trod enc Tryd.prog W base keep b fuel T cs = some (.agg (l.map pairD), p)) :
    ∀ k, k < l.length → cs[k * 2]? = some (.int .i32 (l[k]?.getD (0, 0)).1) ∧ cs[k * 2 + 1]? = some (.int .i32 (l[k]?.getD (0, 0)).2) := by
  obtain ⟨xs, m, rfl, hx, _, hn, hel⟩ := DataW.trod_array hT h
  rw [c60] at hel
  simp only [Prod.mk.injEq, DataW.agg.injEq] at hx
  obtain ⟨hx, _⟩ := hx
  intro k hk
  have hlen : xs.length = l.length := by have := congrArg List.length hx; simpa using this.symm
  have h0 := hel k (by omega)
  rw [List.getElem?_eq_getElem (by omega : k < xs.length)] at h0
  have e1 : (xs[k]'(by omega)).1 = pairD l[k] := by
    have := congrArg (fun l => l[k]?) hx
    simp only [List.getElem?_map, List.getElem?_eq_getElem hk, List.getElem?_eq_getElem (by omega : k < xs.length), Option.map_some, Option.some.injEq] at this
    exact this.symm
  have h1 := pair_of_trod (x := l[k]) (p := (xs[k]'(by omega)).2) (by rw [← e1]; exact h0)
  rw [List.getElem?_eq_getElem hk]
  exact ⟨cell_of_cut (j := 0) (by decide) (h1 0 (by decide)), cell_of_cut (j := 1) (by decide) (h1 1 (by decide))⟩

set_option maxRecDepth 100000 in
theorem gMarks : Tryd.prog.globalNamed "marquee/width.marks" = some 0 := by kernel_rfl
set_option maxRecDepth 100000 in
theorem gWides : Tryd.prog.globalNamed "marquee/width.wides" = some 1 := by kernel_rfl
set_option maxRecDepth 100000 in
theorem tMarks : (Tryd.prog.globals[0]?).map (·.type) = some 81 := by kernel_rfl
set_option maxRecDepth 100000 in
theorem tWides : (Tryd.prog.globals[1]?).map (·.type) = some 83 := by kernel_rfl
def laidG : List (String × DataW Unit) := [("unicode/utf8.acceptRanges", Rows.laid_unicode_utf8_acceptRanges), ("marquee/width.marks", Rows.laid_marquee_width_marks), ("marquee/width.wides", Rows.laid_marquee_width_wides), ("unicode/utf8.first", Rows.laid_unicode_utf8_first)]

set_option maxRecDepth 100000 in
theorem var_lt {P : Program} {w : World} {n : String} {g : Nat} {cs : Array Value} (hg : P.globalNamed n = some g) (h : w.var? P n = some cs) : g < w.heap.size := by
  simp only [World.var?, hg, Option.bind_some] at h
  rcases Nat.lt_or_ge g w.heap.size with hl | hl
  · exact hl
  · rw [Array.getElem?_eq_none hl] at h
    simp at h

set_option maxRecDepth 100000 in
/-- WHAT THE CONDITION GIVES THE WALKS. -/
theorem wt_of_laid {W : World} (h : laidMetH Tryd.prog laidG W) : WT W := by
  rw [MakeChecks.laidMetH_plain _ _ _ (by kernel_rfl)] at h
  obtain ⟨ps, ⟨gA, tA, csA, fA, pA, qA, _, _, _, _, ⟨g0, t0, cs0, f0, p0, q0, hg0, ht0, hv0, hd0, ⟨g1, t1, cs1, f1, p1, q1, hg1, ht1, hv1, hd1, ⟨gB, tB, csB, fB, pB, qB, _, _, _, _, _, _⟩, _⟩, _⟩, _⟩, _, _⟩ := h
  obtain rfl := Option.some.inj (gMarks.symm.trans hg0)
  obtain rfl := Option.some.inj (gWides.symm.trans hg1)
  obtain rfl := Option.some.inj (tMarks.symm.trans ht0)
  obtain rfl := Option.some.inj (tWides.symm.trans ht1)
  have k0 := tab_of_trod (l := marksL) Tryd.underlying81 hd0
  have k1 := tab_of_trod (l := widesL) Tryd.underlying83 hd1
  refine ⟨⟨var_lt hg0 hv0, fun k hk => ⟨?_, ?_⟩⟩, ⟨var_lt hg1 hv1, fun k hk => ⟨?_, ?_⟩⟩⟩
  · exact (World.var?_cell hg0 hv0 _).trans (by simpa using (k0 k hk).1)
  · exact (World.var?_cell hg0 hv0 _).trans (by simpa using (k0 k hk).2)
  · exact (World.var?_cell hg1 hv1 _).trans (by simpa using (k1 k hk).1)
  · exact (World.var?_cell hg1 hv1 _).trans (by simpa using (k1 k hk).2)

set_option maxRecDepth 100000 in
/-- A start that fits: the door's own heap, and the pinned table in its place. -/
theorem startG_met (os : Os) (args : Array Value) : laidMetH Tryd.prog laidG (((World.doorLaid Tryd.prog 400 os).setRow 2 ((List.range 256).map fun i => Value.int .u8 (Lib.firstT i : Nat)).toArray).forCall (fun _ _ => 0) ⟨#[], args, []⟩).memory :=
  laidMetH_of_parts3 (fuel := 8) (laidMet_of_run' 8 (by kernel_rfl) (by kernel_rfl)) (by kernel_rfl) (by kernel_rfl)
set_option maxRecDepth 100000 in
theorem cIntG : Tryd.prog.cellsOf 3 = 1 := by kernel_rfl
set_option maxRecDepth 100000 in
theorem cColor : Tryd.prog.cellsOf 32 = 2 := by kernel_rfl
set_option maxRecDepth 100000 in
theorem arr_two {cs : Array Value} (h : cs.size = 2) : ∃ v0 v1, cs = #[v0, v1] := by
  obtain ⟨l⟩ := cs
  match l, h with
  | [v0, v1], _ => exact ⟨v0, v1, rfl⟩
  | [], h => simp at h
  | [_], h => simp at h
  | _ :: _ :: _ :: _, h => simp at h
set_option maxRecDepth 100000 in
theorem color_cells {H : Type} {enc : TypeId × Value → H} {W : World} {m : Nat} {v0 v1 : Value} {d : DataW H × List MemPlace} (ht : DataW.trod enc Tryd.prog W 0 (fun _ => true) true m 32 [v0, v1] = some d) : ∃ z0 z1 : Int, v0 = .int .i64 z0 ∧ v1 = .int .i64 z1 := by
  obtain ⟨xs, m', rfl, _, hcl, hl2, hg⟩ := DataW.trod_struct Tryd.underlying32 ht
  have g0 : DataW.trod enc Tryd.prog W 0 (fun _ => true) true m' 3 (([v0, v1].drop 0).take (Tryd.prog.cellsOf 3)) = xs[0]? := hg 0 _ rfl
  have g1 : DataW.trod enc Tryd.prog W 0 (fun _ => true) true m' 3 (([v0, v1].drop 1).take (Tryd.prog.cellsOf 3)) = xs[1]? := hg 1 _ rfl
  have hx2 : xs.length = 2 := hl2
  rw [cIntG, List.getElem?_eq_getElem (by omega)] at g0 g1
  obtain ⟨z0, b0, _⟩ := DataW.trod_int Tryd.underlying3 g0
  obtain ⟨z1, b1, _⟩ := DataW.trod_int Tryd.underlying3 g1
  simp at b0 b1
  exact ⟨z0, z1, b0, b1⟩
set_option maxRecDepth 100000 in
/-- A color that came in by value. -/
theorem open_color {H : Type} {enc : TypeId × Value → H} {W : World} {base : Nat} {v : Value} {d : DataW H} {p : List MemPlace} (hv : Value.okWide Tryd.prog W .any base 32 v) (h : DataW.Trod enc Tryd.prog W 0 (fun _ => true) true 32 v d p) :
    ∃ a b : Int, v = .agg #[.int .i64 a, .int .i64 b] := by
  obtain ⟨cs, rfl, hsz⟩ := okWide_struct Tryd.underlying32 hv
  rw [cColor] at hsz
  obtain ⟨v0, v1, rfl⟩ := arr_two hsz
  obtain ⟨fuel, hf⟩ := h
  obtain ⟨z0, z1, rfl, rfl⟩ := color_cells hf
  exact ⟨z0, z1, rfl⟩

end Go.Proofs.YtoiekhjmfoodiaaDoor
