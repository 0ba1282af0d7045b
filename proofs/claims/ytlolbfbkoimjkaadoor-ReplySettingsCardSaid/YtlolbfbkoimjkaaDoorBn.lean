/- What the listed variables give attr's laws; attributes and groups that came in, opened. -/
import Derived.Test.YtlolbfbkoimjkaaDoorRows
import Derived.Test.YtlolbfbkoimjkaaDoorAl
import Derived.ProofKit
import Derived.LaidMore
import Derived.OpenShut
import Derived.Stop.Joined
import Derived.Lib.LaidTab
import Derived.Deep.Matrix
namespace Go.Proofs.YtlolbfbkoimjkaaDoor
open Go.ChangeShapes Go.WideShapes Go.ChangeAt Go.WideMaps Go.WideElems Go.RowKit

set_option maxRecDepth 100000 in
theorem own : ownKnob Tryd.prog.godebug = none := by kernel_rfl
set_option maxRecDepth 100000 in
theorem laidOut : laidOutB Tryd.prog = true := by kernel_rfl
def laidA : List (String × DataW Unit) := [("math/bits.deBruijn32tab", Rows.laid_math_bits_deBruijn32tab), ("math/bits.deBruijn64tab", Rows.laid_math_bits_deBruijn64tab), ("internal/strconv.uint64pow10", Rows.laid_internal_strconv_uint64pow10), ("marquee/attr.turns", Rows.laid_marquee_attr_turns)]
set_option maxRecDepth 100000 in
theorem gPow : Tryd.prog.globalNamed "internal/strconv.uint64pow10" = some 4 := by kernel_rfl
set_option maxRecDepth 100000 in
theorem tPow : (Tryd.prog.globals[4]?).map (·.type) = some 106 := by kernel_rfl
set_option maxRecDepth 100000 in
theorem powD : (Rows.laid_internal_strconv_uint64pow10 : DataW Unit) = Lib.tabData .u64 Lib.pow10Tab := by kernel_rfl
set_option maxRecDepth 100000 in
theorem cU64 : Tryd.prog.cellsOf 90 = 1 := by kernel_rfl
set_option maxRecDepth 100000 in
theorem cPow : Tryd.prog.cellsOf 106 = 20 := by kernel_rfl
set_option maxRecDepth 100000 in
theorem gTurns : Tryd.prog.globalNamed "marquee/attr.turns" = some 0 := by kernel_rfl
set_option maxRecDepth 100000 in
theorem tTurns : (Tryd.prog.globals[0]?).map (·.type) = some 63 := by kernel_rfl
set_option maxRecDepth 100000 in
theorem cIn : Tryd.prog.cellsOf 3 = 1 := by kernel_rfl
set_option maxRecDepth 100000 in
theorem cTurn : Tryd.prog.cellsOf 62 = 3 := by kernel_rfl
set_option maxRecDepth 100000 in
theorem cTurns : Tryd.prog.cellsOf 63 = 54 := by kernel_rfl
set_option maxRecDepth 100000 in
theorem cColor : Tryd.prog.cellsOf 27 = 2 := by kernel_rfl
set_option maxRecDepth 100000 in
theorem cAttr : Tryd.prog.cellsOf 29 = 5 := by kernel_rfl
def tripD {H : Type} (x : Int × Int × Int) : DataW H := .agg [.lit (.int .i64 x.1), .lit (.int .i64 x.2.1), .lit (.int .i64 x.2.2)]
set_option maxRecDepth 100000 in
theorem turnsD : (Rows.laid_marquee_attr_turns : DataW Unit) = .agg (turnsL.map tripD) := by kernel_rfl
def tripV (x : Int × Int × Int) : List Value := [.int .i64 x.1, .int .i64 x.2.1, .int .i64 x.2.2]
set_option maxRecDepth 100000 in
theorem turnsA_flat : turnsA.toList = turnsL.flatMap tripV := by kernel_rfl
set_option maxRecDepth 100000 in
theorem list3 {α : Type} {l : List α} {a b c : α} (hl : l.length = 3) (h0 : (l.drop 0).take 1 = [a]) (h1 : (l.drop 1).take 1 = [b]) (h2 : (l.drop 2).take 1 = [c]) : l = [a, b, c] := by
  match l, hl with
  | [x, y, z], _ => simp at h0 h1 h2; rw [h0, h1, h2]
  | [], h => simp at h
  | [_], h => simp at h
  | [_, _], h => simp at h
  | _ :: _ :: _ :: _ :: _, h => simp at h
set_option maxRecDepth 100000 in
theorem trip_of_trod {H : Type} {enc : TypeId × Value → H} {W : World} {base : Nat} {keep : Nat → Bool} {b : Bool} {fuel : Nat} {cs : List Value} {x : Int × Int × Int} {p : List MemPlace}
    (h : DataW.trod enc Tryd.prog W base keep b fuel 62 cs = some (tripD x, p)) : cs = tripV x := by
  obtain ⟨ys, m, rfl, hx, hcl, hl, hel⟩ := DataW.trod_struct Tryd.underlying62 h
  rw [cTurn] at hcl
  simp only [tripD, Prod.mk.injEq, DataW.agg.injEq] at hx
  obtain ⟨hx, _⟩ := hx
  have hl3 : ys.length = 3 := hl
  have h0 : DataW.trod enc Tryd.prog W base keep b m 3 ((cs.drop 0).take (Tryd.prog.cellsOf 3)) = ys[0]? := hel 0 _ rfl
  have h1 : DataW.trod enc Tryd.prog W base keep b m 3 ((cs.drop 1).take (Tryd.prog.cellsOf 3)) = ys[1]? := hel 1 _ rfl
  have h2 : DataW.trod enc Tryd.prog W base keep b m 3 ((cs.drop 2).take (Tryd.prog.cellsOf 3)) = ys[2]? := hel 2 _ rfl
  rw [cIn] at h0 h1 h2
  match ys, hl3 with
  | [y0, y1, y2], _ =>
    simp only [List.map_cons, List.map_nil, List.cons.injEq, and_true] at hx
    obtain ⟨z0, a0, e0, _⟩ := DataW.trod_int Tryd.underlying3 (show DataW.trod enc Tryd.prog W base keep b m 3 _ = some y0 from h0)
    obtain ⟨z1, a1, e1, _⟩ := DataW.trod_int Tryd.underlying3 (show DataW.trod enc Tryd.prog W base keep b m 3 _ = some y1 from h1)
    obtain ⟨z2, a2, e2, _⟩ := DataW.trod_int Tryd.underlying3 (show DataW.trod enc Tryd.prog W base keep b m 3 _ = some y2 from h2)
    have k0 : z0 = x.1 := by have := hx.1; rw [e0] at this; simpa using this.symm
    have k1 : z1 = x.2.1 := by have := hx.2.1; rw [e1] at this; simpa using this.symm
    have k2 : z2 = x.2.2 := by have := hx.2.2; rw [e2] at this; simpa using this.symm
    subst k0; subst k1; subst k2
    exact list3 hcl a0 a1 a2
set_option maxRecDepth 100000 in
theorem chunks3 {α β : Type} (f : α → List β) : ∀ (l : List α) (cs : List β), cs.length = 3 * l.length → (∀ (i : Nat) (x : α), l[i]? = some x → (cs.drop (i * 3)).take 3 = f x) → cs = l.flatMap f
  | [], cs, h, _ => by simpa using h
  | x :: l, cs, h, hc => by
    have h0 := hc 0 x rfl
    rw [Nat.zero_mul, List.drop_zero] at h0
    rw [List.flatMap_cons, ← h0]
    have ih := chunks3 f l (cs.drop 3) (by simp at h ⊢; omega) (fun i y hy => by
      have := hc (i + 1) y (by simpa using hy)
      rw [List.drop_drop]
      rw [show 3 + i * 3 = (i + 1) * 3 by omega]
      exact this)
    rw [← ih, List.take_append_drop]
set_option maxRecDepth 100000 in
theorem var_block {P : Program} {w : World} {n : String} {g : Nat} {cs : Array Value} (hg : P.globalNamed n = some g) (h : w.var? P n = some cs) : ∃ t fr, w.heap[g]? = some (.cells cs t fr) := by
  simp only [World.var?, hg, Option.bind_some] at h
  split at h
  · rename_i c t fr hh
    injection h with h
    subst h
    exact ⟨t, fr, hh⟩
  · cases h
set_option maxRecDepth 100000 in
theorem turns_of_trod {H : Type} {enc : TypeId × Value → H} {W : World} {base : Nat} {keep : Nat → Bool} {b : Bool} {fuel : Nat} {cs : List Value} {p : List MemPlace}
    (h : DataW.trod enc Tryd.prog W base keep b fuel 63 cs = some (.agg (turnsL.map tripD), p)) : cs = turnsA.toList := by
  obtain ⟨xs, m, rfl, hx, hcl, hn, hel⟩ := DataW.trod_array Tryd.underlying63 h
  rw [cTurns] at hcl
  rw [cTurn] at hel
  simp only [Prod.mk.injEq, DataW.agg.injEq] at hx
  obtain ⟨hx, _⟩ := hx
  rw [turnsA_flat]
  refine chunks3 tripV turnsL cs (by rw [hcl]; rfl) (fun i x hi => ?_)
  have hi18 : i < 18 := (List.getElem?_eq_some_iff.1 hi).1
  have h0 := hel i hi18
  rw [List.getElem?_eq_getElem (by omega)] at h0
  have e1 : (xs[i]'(by omega)).1 = tripD x := by
    have := congrArg (fun l => l[i]?) hx
    simp only [List.getElem?_map, hi, List.getElem?_eq_getElem (show i < xs.length by omega), Option.map_some, Option.some.injEq] at this
    exact this.symm
  exact trip_of_trod (x := x) (p := (xs[i]'(by omega)).2) (by rw [← e1]; exact h0)
set_option maxRecDepth 100000 in
/-- WHAT THE CONDITION GIVES THE WALKS. -/
theorem at_of_laid {W : World} (h : laidMetH Tryd.prog laidA W) : TT W ∧ T10 W.heap.size W := by
  rw [MakeChecks.laidMetH_plain _ _ _ (by kernel_rfl)] at h
  obtain ⟨ps, ⟨g0, t0, cs0, f0, p0, q0, _, _, _, _, ⟨g1, t1, cs1, f1, p1, q1, _, _, _, _, ⟨g2, t2, cs2, f2, p2, q2, hg2, ht2, hv2, hd2, ⟨g3, t3, cs3, f3, p3, q3, hg3, ht3, hv3, hd3, _, _⟩, _⟩, _⟩, _⟩, _, _⟩ := h
  obtain rfl := Option.some.inj (gPow.symm.trans hg2)
  obtain rfl := Option.some.inj (tPow.symm.trans ht2)
  obtain rfl := Option.some.inj (gTurns.symm.trans hg3)
  obtain rfl := Option.some.inj (tTurns.symm.trans ht3)
  rw [powD] at hd2
  rw [turnsD] at hd3
  refine ⟨?_, ?_⟩
  · obtain ⟨t, fr, hb⟩ := var_block hg3 hv3
    have e := turns_of_trod hd3
    have e2 : cs3 = turnsA := Array.toList_inj.1 e
    exact ⟨t, fr, by rw [hb, e2]⟩
  · refine Lib.tabBelow_of_tabIs ?_
    unfold Lib.TabIs
    rw [hv2, ← Lib.cells_of_tab Tryd.underlying106 Tryd.underlying90 cU64 cPow hd2]
set_option maxRecDepth 100000 in
/-- The door's own heap meets the condition. -/
theorem doorA_met (os : Os) (args : Array Value) : laidMetH Tryd.prog laidA ((World.doorLaid Tryd.prog 400 os).forCall (fun _ _ => 0) ⟨#[], args, []⟩).memory :=
  laidMetH_of_parts3 (fuel := 8) (laidMet_of_run' 8 (by kernel_rfl) (by kernel_rfl)) (by kernel_rfl) (by kernel_rfl)
set_option maxRecDepth 100000 in
theorem five_of {cs : Array Value} (h : cs.size = 5) : ∃ v0 v1 v2 v3 v4, cs = #[v0, v1, v2, v3, v4] := by
  obtain ⟨l⟩ := cs
  match l, h with
  | [v0, v1, v2, v3, v4], _ => exact ⟨v0, v1, v2, v3, v4, rfl⟩
  | [], h => simp at h
  | [_], h => simp at h
  | [_, _], h => simp at h
  | [_, _, _], h => simp at h
  | [_, _, _, _], h => simp at h
  | _ :: _ :: _ :: _ :: _ :: _ :: _, h => simp at h
set_option maxRecDepth 100000 in
theorem open_color {H : Type} {enc : TypeId × Value → H} {W : World} {n : Nat} {v0 v1 : Value} {y : DataW H × List MemPlace} (h : DataW.trod enc Tryd.prog W 0 (fun _ => true) true n 27 [v0, v1] = some y) : ∃ a b : Int, v0 = .int .i64 a ∧ v1 = .int .i64 b := by
  obtain ⟨xs, m, rfl, _, _, hl, hel⟩ := DataW.trod_struct Tryd.underlying27 h
  have h0 : DataW.trod enc Tryd.prog W 0 (fun _ => true) true m 3 (([v0, v1].drop 0).take (Tryd.prog.cellsOf 3)) = xs[0]? := hel 0 _ rfl
  have h1 : DataW.trod enc Tryd.prog W 0 (fun _ => true) true m 3 (([v0, v1].drop 1).take (Tryd.prog.cellsOf 3)) = xs[1]? := hel 1 _ rfl
  have hl2 : xs.length = 2 := hl
  rw [cIn] at h0 h1
  rw [List.getElem?_eq_getElem (by omega)] at h0 h1
  simp only [List.drop_zero, List.drop_succ_cons, List.take_succ_cons, List.take_zero] at h0 h1
  obtain ⟨z0, b0, _⟩ := DataW.trod_int Tryd.underlying3 h0
  obtain ⟨z1, b1, _⟩ := DataW.trod_int Tryd.underlying3 h1
  simp only [List.cons.injEq, and_true] at b0 b1
  exact ⟨z0, z1, b0, b1⟩
set_option maxRecDepth 100000 in
/-- An attribute that came in by value. -/
theorem open_attr {H : Type} {enc : TypeId × Value → H} {W : World} {base : Nat} {v : Value} {d : DataW H} {p : List MemPlace} (hv : Value.okWide Tryd.prog W .any base 29 v) (h : DataW.Trod enc Tryd.prog W 0 (fun _ => true) true 29 v d p) :
    ∃ a b c d f : Int, (-9223372036854775808 ≤ f ∧ f ≤ 9223372036854775807) ∧ v = .agg #[.int .i64 a, .int .i64 b, .int .i64 c, .int .i64 d, .int .i64 f] := by
  obtain ⟨cs, rfl, hsz⟩ := okWide_struct Tryd.underlying29 hv
  rw [cAttr] at hsz
  obtain ⟨v0, v1, v2, v3, v4, rfl⟩ := five_of hsz
  obtain ⟨fuel, hf⟩ := h
  obtain ⟨xs, n, rfl, _, _, hl, hel⟩ := DataW.trod_struct Tryd.underlying29 hf
  have h0 : DataW.trod enc Tryd.prog W 0 (fun _ => true) true n 27 (([v0, v1, v2, v3, v4].drop 0).take (Tryd.prog.cellsOf 27)) = xs[0]? := hel 0 _ rfl
  have h1 : DataW.trod enc Tryd.prog W 0 (fun _ => true) true n 27 (([v0, v1, v2, v3, v4].drop 2).take (Tryd.prog.cellsOf 27)) = xs[1]? := hel 1 _ rfl
  have h2 : DataW.trod enc Tryd.prog W 0 (fun _ => true) true n 3 (([v0, v1, v2, v3, v4].drop 4).take (Tryd.prog.cellsOf 3)) = xs[2]? := hel 2 _ rfl
  rw [cColor] at h0 h1
  rw [cIn] at h2
  have hl3 : xs.length = 3 := hl
  rw [List.getElem?_eq_getElem (by omega)] at h0 h1 h2
  simp only [List.drop_zero, List.drop_succ_cons, List.take_succ_cons, List.take_zero] at h0 h1 h2
  obtain ⟨a, b, rfl, rfl⟩ := open_color h0
  obtain ⟨c, d, rfl, rfl⟩ := open_color h1
  obtain ⟨f, e4, _, hw⟩ := DataW.trod_int Tryd.underlying3 h2
  simp only [List.cons.injEq, and_true] at e4
  subst e4
  exact ⟨a, b, c, d, f, bounds_i64 hw, rfl⟩

set_option maxRecDepth 100000 in
theorem lt_of_cell {w : World} {b o : Nat} {v : Value} (h : w.cell? ⟨b, o, none⟩ = some v) : b < w.heap.size := by
  rcases Nat.lt_or_ge b w.heap.size with hl | hl
  · exact hl
  · simp [World.cell?, Array.getElem?_eq_none hl] at h
set_option maxRecDepth 100000 in
theorem cI : Tryd.prog.cellsOf 3 = 1 := by kernel_rfl
set_option maxRecDepth 100000 in
theorem cIs : Tryd.prog.cellsOf 42 = 1 := by kernel_rfl
set_option maxRecDepth 100000 in
/-- Rows of rows of numbers that came in. -/
theorem open_groups {H : Type} {enc : TypeId × Value → H} {W : World} {A : Option Addr} {n c : Nat} {d : DataW H} {p : List MemPlace} (h : DataW.Trod enc Tryd.prog W 0 (fun _ => true) true 33 (.slice A n c) d p) :
    ∃ L : List (List Int), n = L.length ∧ n ≤ c ∧ RG W W.heap.size A L := by
  obtain ⟨fuel, hf⟩ := h
  rcases Go.Deep.open_int_rows Tryd.underlying33 Tryd.underlying42 Tryd.underlying3 cIs cI hf with ⟨hcs, _⟩ | ⟨a, len, cap, A', L, C, Z, hcs, _, hl, _, _, hrow⟩
  · have e : Value.slice A n c = .slice none 0 0 := by simpa [Value.cells] using hcs
    injection e with e1 e2 e3
    subst e1; subst e2; subst e3
    exact ⟨[], rfl, Nat.le_refl _, fun h => absurd rfl h⟩
  · have e : Value.slice A n c = .slice (some a) len cap := by simpa [Value.cells] using hcs
    injection e with e1 e2 e3
    subst e1; subst e2; subst e3
    refine ⟨(List.range n).map fun r => (Z r).take (L r), by simp, hl, fun hne => ?_⟩
    have hn0 : 0 < n := by
      rcases Nat.eq_zero_or_pos n with h0 | h0
      · subst h0; simp at hne
      · exact h0
    obtain ⟨b, off, spot⟩ := a
    have h0 := (hrow 0 (by omega)).1
    have hspot : spot = none := by simpa [Addr.add] using World.cell?_spot h0
    subst hspot
    have hadd : ∀ i : Nat, ((⟨b, off, none⟩ : Addr).add i) = ⟨b, off + i, none⟩ := fun i => by
      unfold Addr.add
      by_cases h1 : i = 0 <;> simp [h1]
    rw [hadd] at h0
    refine ⟨b, off, rfl, lt_of_cell h0, fun i hi => ?_⟩
    have hi' : i < n := by simpa using hi
    obtain ⟨k1, k2, k3, k4, _, _, k5⟩ := hrow i (by omega)
    rw [hadd] at k1
    rw [List.getElem?_map, List.getElem?_range hi']
    simp only [Option.map_some, Option.getD_some]
    have hlen : ((Z i).take (L i)).length = L i := by rw [List.length_take, k4]; omega
    refine ⟨A' i, C i, by rw [hlen]; exact k1, fun hz => ?_, by rw [hlen]; exact k2⟩
    have hLi : 0 < L i := by
      rcases Nat.eq_zero_or_pos (L i) with h | h
      · rw [h] at hz; simp at hz
      · exact h
    cases hA : A' i with
    | none =>
      have := (hrow i (by omega)).2.2.2.2.2.1 hA
      omega
    | some a' =>
      have hc := (k5 a' hA).2
      obtain ⟨b', off', rfl, hc'⟩ := ints_at (zs := Z i) (fun j hj => hc j (by omega)) (by omega)
      refine ⟨b', off', rfl, lt_of_cell (hc' 0 (by omega)), fun k hk => ?_⟩
      rw [hlen] at hk
      rw [hc' k (by omega), List.getElem?_take, if_pos hk, List.getD_eq_getElem?_getD]

end Go.Proofs.YtlolbfbkoimjkaaDoor
