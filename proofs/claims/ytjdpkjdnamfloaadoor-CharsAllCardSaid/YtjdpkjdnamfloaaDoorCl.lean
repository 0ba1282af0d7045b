/- What the listed variable gives: the table lies in memory; states and texts that came in, opened. -/
import Derived.Test.YtjdpkjdnamfloaaDoorRows
import Derived.Test.YtjdpkjdnamfloaaDoorCa
import Derived.ProofKit
import Derived.LaidMore
import Derived.OpenShut
import Derived.Stop.Joined
import Derived.Laws.IdiomArrays
namespace Go.Proofs.YtjdpkjdnamfloaaDoor
open Go.ChangeShapes Go.WideShapes Go.ChangeAt Go.WideMaps Go.WideElems Go.RowKit

theorem own : ownKnob Tryd.prog.godebug = none := by kernel_rfl
theorem laidOut : laidOutB Tryd.prog = true := by kernel_rfl
theorem cInt32 : Tryd.prog.cellsOf 21 = 1 := by kernel_rfl
theorem cInt : Tryd.prog.cellsOf 3 = 1 := by kernel_rfl
theorem cArr4 : Tryd.prog.cellsOf 22 = 4 := by kernel_rfl
theorem cState : Tryd.prog.cellsOf 24 = 6 := by kernel_rfl
theorem gDrawn : Tryd.prog.globalNamed "marquee/chars.drawn" = some 0 := by kernel_rfl
theorem tDrawn : (Tryd.prog.globals[0]?).map (·.type) = some 52 := by kernel_rfl
def laidC : List (String × DataW Unit) := [("marquee/chars.drawn", Rows.laid_marquee_chars_drawn)]
theorem drawnD : (Rows.laid_marquee_chars_drawn : DataW Unit) = .agg (drawnL.map fun z => .lit (.int .i32 z)) := by kernel_rfl

theorem cell_of_cut1 {cs : List Value} {j : Nat} {v : Value} (h : ((cs.drop (j * 1)).take 1) = [v]) : cs[j]? = some v := by
  have h0 : ((cs.drop (j * 1)).take 1)[0]? = some v := by rw [h]; rfl
  rw [List.getElem?_take, if_pos (by omega), List.getElem?_drop] at h0
  simpa using h0
theorem ints_of_trod {H : Type} {enc : TypeId × Value → H} {W : World} {base : Nat} {keep : Nat → Bool} {b : Bool} {fuel : Nat} {cs : List Value} {l : List Int} {p : List MemPlace} {T n : Nat}
    (hT : Tryd.prog.underlying T = some (.array n 21)) (h : DataW.trod enc Tryd.prog W base keep b fuel T cs = some (.agg (l.map fun z => .lit (.int .i32 z)), p)) :
    ∀ k, k < l.length → cs[k]? = some (.int .i32 (l[k]?.getD 0)) := by
  obtain ⟨xs, m, rfl, hx, _, hn, hel⟩ := DataW.trod_array hT h
  rw [cInt32] at hel
  simp only [Prod.mk.injEq, DataW.agg.injEq] at hx
  obtain ⟨hx, _⟩ := hx
  intro k hk
  have hlen : xs.length = l.length := by have := congrArg List.length hx; simpa using this.symm
  have h0 := hel k (by omega)
  rw [List.getElem?_eq_getElem (by omega : k < xs.length)] at h0
  have e1 : (xs[k]'(by omega)).1 = .lit (.int .i32 l[k]) := by
    have := congrArg (fun l => l[k]?) hx
    simp only [List.getElem?_map, List.getElem?_eq_getElem hk, List.getElem?_eq_getElem (by omega : k < xs.length), Option.map_some, Option.some.injEq] at this
    exact this.symm
  obtain ⟨z, a1, a2, _⟩ := DataW.trod_int Tryd.underlying21 h0
  have hz : z = l[k] := by
    rw [a2] at e1
    simpa using e1
  rw [List.getElem?_eq_getElem hk, Option.getD_some, ← hz]
  exact cell_of_cut1 a1
theorem var_lt {P : Program} {w : World} {n : String} {g : Nat} {cs : Array Value} (hg : P.globalNamed n = some g) (h : w.var? P n = some cs) : g < w.heap.size := by
  simp only [World.var?, hg, Option.bind_some] at h
  rcases Nat.lt_or_ge g w.heap.size with hl | hl
  · exact hl
  · rw [Array.getElem?_eq_none hl] at h
    simp at h
/-- WHAT THE CONDITION GIVES THE WALKS. -/
theorem ct_of_laid {W : World} (h : laidMetH Tryd.prog laidC W) : CT W := by
  rw [MakeChecks.laidMetH_plain _ _ _ (by kernel_rfl)] at h
  obtain ⟨ps, ⟨g0, t0, cs0, f0, p0, q0, hg0, ht0, hv0, hd0, _, _⟩, _, _⟩ := h
  obtain rfl := Option.some.inj (gDrawn.symm.trans hg0)
  obtain rfl := Option.some.inj (tDrawn.symm.trans ht0)
  rw [drawnD] at hd0
  have k0 := ints_of_trod (l := drawnL) Tryd.underlying52 hd0
  exact ⟨var_lt hg0 hv0, fun k hk => (World.var?_cell hg0 hv0 _).trans (by simpa using k0 k hk)⟩
/-- The door's own heap meets the condition. -/
theorem doorC_met (os : Os) (args : Array Value) : laidMetH Tryd.prog laidC ((World.doorLaid Tryd.prog 400 os).forCall (fun _ _ => 0) ⟨#[], args, []⟩).memory :=
  laidMetH_of_parts3 (fuel := 8) (laidMet_of_run' 8 (by kernel_rfl) (by kernel_rfl)) (by kernel_rfl) (by kernel_rfl)

theorem six_of {cs : Array Value} (h : cs.size = 6) : ∃ v0 v1 v2 v3 v4 v5, cs = #[v0, v1, v2, v3, v4, v5] := by
  obtain ⟨l⟩ := cs
  match l, h with
  | [v0, v1, v2, v3, v4, v5], _ => exact ⟨v0, v1, v2, v3, v4, v5, rfl⟩
  | [], h => simp at h
  | [_], h => simp at h
  | [_, _], h => simp at h
  | [_, _, _], h => simp at h
  | [_, _, _, _], h => simp at h
  | [_, _, _, _, _], h => simp at h
  | _ :: _ :: _ :: _ :: _ :: _ :: _ :: _, h => simp at h
/-- A state that came in by value. -/
theorem open_state {H : Type} {enc : TypeId × Value → H} {W : World} {base : Nat} {v : Value} {d : DataW H} {p : List MemPlace} (hv : Value.okWide Tryd.prog W .any base 24 v) (h : DataW.Trod enc Tryd.prog W 0 (fun _ => true) true 24 v d p) :
    ∃ a b c d u o : Int, v = .agg #[.int .i64 a, .int .i64 b, .int .i64 c, .int .i64 d, .int .i64 u, .int .i64 o] := by
  obtain ⟨cs, rfl, hsz⟩ := okWide_struct Tryd.underlying24 hv
  rw [cState] at hsz
  obtain ⟨v0, v1, v2, v3, v4, v5, rfl⟩ := six_of hsz
  obtain ⟨fuel, hf⟩ := h
  obtain ⟨xs, n, rfl, _, _, hl, hel⟩ := DataW.trod_struct Tryd.underlying24 hf
  have h0 : DataW.trod enc Tryd.prog W 0 (fun _ => true) true n 22 (([v0, v1, v2, v3, v4, v5].drop 0).take (Tryd.prog.cellsOf 22)) = xs[0]? := hel 0 _ rfl
  have h1 : DataW.trod enc Tryd.prog W 0 (fun _ => true) true n 3 (([v0, v1, v2, v3, v4, v5].drop 4).take (Tryd.prog.cellsOf 3)) = xs[1]? := hel 1 _ rfl
  have h2 : DataW.trod enc Tryd.prog W 0 (fun _ => true) true n 3 (([v0, v1, v2, v3, v4, v5].drop 5).take (Tryd.prog.cellsOf 3)) = xs[2]? := hel 2 _ rfl
  rw [cArr4] at h0
  rw [cInt] at h1 h2
  have hl3 : xs.length = 3 := hl
  rw [List.getElem?_eq_getElem (by omega)] at h0 h1 h2
  simp only [List.drop_zero, List.drop_succ_cons, List.take_succ_cons, List.take_zero] at h0 h1 h2
  obtain ⟨y0, y1, y2, y3, m, _, a0, a1, a2, a3⟩ := trod_array4 Tryd.underlying22 cInt h0
  obtain ⟨z0, b0, _⟩ := DataW.trod_int Tryd.underlying3 a0
  obtain ⟨z1, b1, _⟩ := DataW.trod_int Tryd.underlying3 a1
  obtain ⟨z2, b2, _⟩ := DataW.trod_int Tryd.underlying3 a2
  obtain ⟨z3, b3, _⟩ := DataW.trod_int Tryd.underlying3 a3
  obtain ⟨z4, b4, _⟩ := DataW.trod_int Tryd.underlying3 h1
  obtain ⟨z5, b5, _⟩ := DataW.trod_int Tryd.underlying3 h2
  simp only [List.cons.injEq, and_true] at b0 b1 b2 b3 b4 b5
  subst b0; subst b1; subst b2; subst b3; subst b4; subst b5
  exact ⟨z0, z1, z2, z3, z4, z5, rfl⟩

end Go.Proofs.YtjdpkjdnamfloaaDoor
