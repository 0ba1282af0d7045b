/- What the listed variables give mode's laws; what is set and reset that came in, opened. -/
import Derived.Test.YtolhdmlphmnpbaaDoorRows
import Derived.Test.YtolhdmlphmnpbaaDoorIm
import Derived.ProofKit
import Derived.LaidMore
import Derived.OpenShut
import Derived.Stop.Joined
import Derived.Lib.LaidTab
import Derived.Deep.Slices
namespace Go.Proofs.YtolhdmlphmnpbaaDoor
open Go.ChangeShapes Go.WideShapes Go.ChangeAt Go.WideMaps Go.WideElems Go.RowKit

theorem own : ownKnob Tryd.prog.godebug = none := by kernel_rfl
theorem laidOut : laidOutB Tryd.prog = true := by kernel_rfl
def laidI : List (String × DataW Unit) := [("math/bits.deBruijn32tab", Rows.laid_math_bits_deBruijn32tab), ("math/bits.deBruijn64tab", Rows.laid_math_bits_deBruijn64tab), ("internal/strconv.uint64pow10", Rows.laid_internal_strconv_uint64pow10), ("marquee/mode.names", Rows.laid_marquee_mode_names)]
theorem gPow : Tryd.prog.globalNamed "internal/strconv.uint64pow10" = some 1 := by kernel_rfl
theorem tPow : (Tryd.prog.globals[1]?).map (·.type) = some 65 := by kernel_rfl
theorem powD : (Rows.laid_internal_strconv_uint64pow10 : DataW Unit) = Lib.tabData .u64 Lib.pow10Tab := by kernel_rfl
theorem cU64 : Tryd.prog.cellsOf 58 = 1 := by kernel_rfl
theorem cPow : Tryd.prog.cellsOf 65 = 20 := by kernel_rfl
theorem gNames : Tryd.prog.globalNamed "marquee/mode.names" = some 0 := by kernel_rfl
theorem tNames : (Tryd.prog.globals[0]?).map (·.type) = some 51 := by kernel_rfl
theorem cIn : Tryd.prog.cellsOf 3 = 1 := by kernel_rfl
theorem cBo : Tryd.prog.cellsOf 4 = 1 := by kernel_rfl
theorem cName : Tryd.prog.cellsOf 50 = 2 := by kernel_rfl
theorem cNames : Tryd.prog.cellsOf 51 = 36 := by kernel_rfl
theorem cOp : Tryd.prog.cellsOf 33 = 3 := by kernel_rfl
def pairD {H : Type} (x : Bool × Int) : DataW H := .agg [.lit (.bool x.1), .lit (.int .i64 x.2)]
theorem namesD : (Rows.laid_marquee_mode_names : DataW Unit) = .agg (modesL.map pairD) := by kernel_rfl
def pairV (x : Bool × Int) : List Value := [.bool x.1, .int .i64 x.2]
theorem namesV_flat : namesV.toList = modesL.flatMap pairV := by kernel_rfl
theorem list2 {α : Type} {l : List α} {a b : α} (hl : l.length = 2) (h0 : (l.drop 0).take 1 = [a]) (h1 : (l.drop 1).take 1 = [b]) : l = [a, b] := by
  match l, hl with
  | [x, y], _ => simp at h0 h1; rw [h0, h1]
  | [], h => simp at h
  | [_], h => simp at h
  | _ :: _ :: _ :: _, h => simp at h
theorem pair_of_trod {H : Type} {enc : TypeId × Value → H} {W : World} {base : Nat} {keep : Nat → Bool} {b : Bool} {fuel : Nat} {cs : List Value} {x : Bool × Int} {p : List MemPlace}
    (h : DataW.trod enc Tryd.prog W base keep b fuel 50 cs = some (pairD x, p)) : cs = pairV x := by
  obtain ⟨ys, m, rfl, hx, hcl, hl, hel⟩ := DataW.trod_struct Tryd.underlying50 h
  rw [cName] at hcl
  simp only [pairD, Prod.mk.injEq, DataW.agg.injEq] at hx
  obtain ⟨hx, _⟩ := hx
  have hl2 : ys.length = 2 := hl
  have h0 : DataW.trod enc Tryd.prog W base keep b m 4 ((cs.drop 0).take (Tryd.prog.cellsOf 4)) = ys[0]? := hel 0 _ rfl
  have h1 : DataW.trod enc Tryd.prog W base keep b m 3 ((cs.drop 1).take (Tryd.prog.cellsOf 3)) = ys[1]? := hel 1 _ rfl
  rw [cBo] at h0
  rw [cIn] at h1
  match ys, hl2 with
  | [y0, y1], _ =>
    simp only [List.map_cons, List.map_nil, List.cons.injEq, and_true] at hx
    obtain ⟨z0, a0, e0⟩ := DataW.trod_bool Tryd.underlying4 (show DataW.trod enc Tryd.prog W base keep b m 4 _ = some y0 from h0)
    obtain ⟨z1, a1, e1, _⟩ := DataW.trod_int Tryd.underlying3 (show DataW.trod enc Tryd.prog W base keep b m 3 _ = some y1 from h1)
    have k0 : z0 = x.1 := by have := hx.1; rw [e0] at this; simpa using this.symm
    have k1 : z1 = x.2 := by have := hx.2; rw [e1] at this; simpa using this.symm
    subst k0; subst k1
    exact list2 hcl a0 a1
theorem chunks2 {α β : Type} (f : α → List β) : ∀ (l : List α) (cs : List β), cs.length = 2 * l.length → (∀ (i : Nat) (x : α), l[i]? = some x → (cs.drop (i * 2)).take 2 = f x) → cs = l.flatMap f
  | [], cs, h, _ => by simpa using h
  | x :: l, cs, h, hc => by
    have h0 := hc 0 x rfl
    rw [Nat.zero_mul, List.drop_zero] at h0
    rw [List.flatMap_cons, ← h0]
    have ih := chunks2 f l (cs.drop 2) (by simp at h ⊢; omega) (fun i y hy => by
      have := hc (i + 1) y (by simpa using hy)
      rw [List.drop_drop]
      rw [show 2 + i * 2 = (i + 1) * 2 by omega]
      exact this)
    rw [← ih, List.take_append_drop]
theorem var_block {P : Program} {w : World} {n : String} {g : Nat} {cs : Array Value} (hg : P.globalNamed n = some g) (h : w.var? P n = some cs) : ∃ t fr, w.heap[g]? = some (.cells cs t fr) := by
  simp only [World.var?, hg, Option.bind_some] at h
  split at h
  · rename_i c t fr hh
    injection h with h
    subst h
    exact ⟨t, fr, hh⟩
  · cases h
theorem names_of_trod {H : Type} {enc : TypeId × Value → H} {W : World} {base : Nat} {keep : Nat → Bool} {b : Bool} {fuel : Nat} {cs : List Value} {p : List MemPlace}
    (h : DataW.trod enc Tryd.prog W base keep b fuel 51 cs = some (.agg (modesL.map pairD), p)) : cs = namesV.toList := by
  obtain ⟨xs, m, rfl, hx, hcl, hn, hel⟩ := DataW.trod_array Tryd.underlying51 h
  rw [cNames] at hcl
  rw [cName] at hel
  simp only [Prod.mk.injEq, DataW.agg.injEq] at hx
  obtain ⟨hx, _⟩ := hx
  rw [namesV_flat]
  refine chunks2 pairV modesL cs (by rw [hcl]; rfl) (fun i x hi => ?_)
  have hi18 : i < 18 := (List.getElem?_eq_some_iff.1 hi).1
  have h0 := hel i hi18
  rw [List.getElem?_eq_getElem (by omega)] at h0
  have e1 : (xs[i]'(by omega)).1 = pairD x := by
    have := congrArg (fun l => l[i]?) hx
    simp only [List.getElem?_map, hi, List.getElem?_eq_getElem (show i < xs.length by omega), Option.map_some, Option.some.injEq] at this
    exact this.symm
  exact pair_of_trod (x := x) (p := (xs[i]'(by omega)).2) (by rw [← e1]; exact h0)
/-- WHAT THE CONDITION GIVES THE WALKS. -/
theorem it_of_laid {W : World} (h : laidMetH Tryd.prog laidI W) : NT W ∧ TI W := by
  rw [MakeChecks.laidMetH_plain _ _ _ (by kernel_rfl)] at h
  obtain ⟨ps, ⟨g0, t0, cs0, f0, p0, q0, _, _, _, _, ⟨g1, t1, cs1, f1, p1, q1, _, _, _, _, ⟨g2, t2, cs2, f2, p2, q2, hg2, ht2, hv2, hd2, ⟨g3, t3, cs3, f3, p3, q3, hg3, ht3, hv3, hd3, _, _⟩, _⟩, _⟩, _⟩, _, _⟩ := h
  obtain rfl := Option.some.inj (gPow.symm.trans hg2)
  obtain rfl := Option.some.inj (tPow.symm.trans ht2)
  obtain rfl := Option.some.inj (gNames.symm.trans hg3)
  obtain rfl := Option.some.inj (tNames.symm.trans ht3)
  rw [powD] at hd2
  rw [namesD] at hd3
  refine ⟨?_, ?_⟩
  · obtain ⟨t, fr, hb⟩ := var_block hg3 hv3
    have e := names_of_trod hd3
    have e2 : cs3 = namesV := Array.toList_inj.1 e
    exact ⟨t, fr, by rw [hb, e2]⟩
  · show Lib.TabIs _ _ _ _ _
    unfold Lib.TabIs
    rw [hv2, ← Lib.cells_of_tab Tryd.underlying65 Tryd.underlying58 cU64 cPow hd2]
/-- The door's own heap meets the condition. -/
theorem doorI_met (os : Os) (args : Array Value) : laidMetH Tryd.prog laidI ((World.doorLaid Tryd.prog 400 os).forCall (fun _ _ => 0) ⟨#[], args, []⟩).memory :=
  laidMetH_of_parts3 (fuel := 8) (laidMet_of_run' 8 (by kernel_rfl) (by kernel_rfl)) (by kernel_rfl) (by kernel_rfl)
theorem lt_of_cell {w : World} {b o : Nat} {v : Value} (h : w.cell? ⟨b, o, none⟩ = some v) : b < w.heap.size := by
  rcases Nat.lt_or_ge b w.heap.size with hl | hl
  · exact hl
  · simp [World.cell?, Array.getElem?_eq_none hl] at h
theorem arr_three {cs : Array Value} (h : cs.size = 3) : ∃ v0 v1 v2, cs = #[v0, v1, v2] := by
  obtain ⟨l⟩ := cs
  match l, h with
  | [v0, v1, v2], _ => exact ⟨v0, v1, v2, rfl⟩
  | [], h => simp at h
  | [_], h => simp at h
  | [_, _], h => simp at h
  | _ :: _ :: _ :: _ :: _, h => simp at h
theorem op_cells {H : Type} {enc : TypeId × Value → H} {W : World} {m : Nat} {v0 v1 v2 : Value} {d : DataW H × List MemPlace} (ht : DataW.trod enc Tryd.prog W 0 (fun _ => true) true m 33 [v0, v1, v2] = some d) : ∃ (p : Bool) (n : Int) (on : Bool), (-9223372036854775808 ≤ n ∧ n ≤ 9223372036854775807) ∧ v0 = .bool p ∧ v1 = .int .i64 n ∧ v2 = .bool on := by
  obtain ⟨xs, m', rfl, _, hcl, hl2, hg⟩ := DataW.trod_struct Tryd.underlying33 ht
  have g0 : DataW.trod enc Tryd.prog W 0 (fun _ => true) true m' 4 (([v0, v1, v2].drop 0).take (Tryd.prog.cellsOf 4)) = xs[0]? := hg 0 _ rfl
  have g1 : DataW.trod enc Tryd.prog W 0 (fun _ => true) true m' 3 (([v0, v1, v2].drop 1).take (Tryd.prog.cellsOf 3)) = xs[1]? := hg 1 _ rfl
  have g2 : DataW.trod enc Tryd.prog W 0 (fun _ => true) true m' 4 (([v0, v1, v2].drop 2).take (Tryd.prog.cellsOf 4)) = xs[2]? := hg 2 _ rfl
  have hx2 : xs.length = 3 := hl2
  rw [cBo, List.getElem?_eq_getElem (by omega)] at g0 g2
  rw [cIn, List.getElem?_eq_getElem (by omega)] at g1
  obtain ⟨z0, b0, _⟩ := DataW.trod_bool Tryd.underlying4 g0
  obtain ⟨z1, b1, _, hw⟩ := DataW.trod_int Tryd.underlying3 g1
  obtain ⟨z2, b2, _⟩ := DataW.trod_bool Tryd.underlying4 g2
  simp at b0 b1 b2
  exact ⟨z0, z1, z2, bounds_i64 hw, b0, b1, b2⟩
/-- One that came in by value. -/
theorem open_op {H : Type} {enc : TypeId × Value → H} {W : World} {base : Nat} {v : Value} {d : DataW H} {p : List MemPlace} (hv : Value.okWide Tryd.prog W .any base 33 v) (h : DataW.Trod enc Tryd.prog W 0 (fun _ => true) true 33 v d p) :
    ∃ (a : Bool) (b : Int) (c : Bool), v = .agg #[.bool a, .int .i64 b, .bool c] := by
  obtain ⟨cs, rfl, hsz⟩ := okWide_struct Tryd.underlying33 hv
  rw [cOp] at hsz
  obtain ⟨v0, v1, v2, rfl⟩ := arr_three hsz
  obtain ⟨fuel, hf⟩ := h
  obtain ⟨z0, z1, z2, _, rfl, rfl, rfl⟩ := op_cells hf
  exact ⟨z0, z1, z2, rfl⟩
/-- A slice of them that came in. -/
theorem open_ops {H : Type} {enc : TypeId × Value → H} {W : World} {A : Option Addr} {n c : Nat} {d : DataW H} {p : List MemPlace} (h : DataW.Trod enc Tryd.prog W 0 (fun _ => true) true 22 (.slice A n c) d p) :
    ∃ xs : List (Bool × Int × Bool), n = xs.length ∧ okO xs ∧ RO W W.heap.size A xs := by
  obtain ⟨fuel, hf⟩ := h
  rcases Go.Deep.open_slice Tryd.underlying22 hf with ⟨hcs, _⟩ | ⟨a, len, cap, m, n', D, Pl, hcs, _, hl, _, hm, _, hel⟩
  · have e : Value.slice A n c = .slice none 0 0 := by simpa [Value.cells] using hcs
    injection e with e1 e2 e3
    subst e1; subst e2
    exact ⟨[], rfl, fun k p n on h => by simp at h, fun h => absurd rfl h⟩
  · have e : Value.slice A n c = .slice (some a) len cap := by simpa [Value.cells] using hcs
    injection e with e1 e2 e3
    subst e1; subst e2; subst e3
    rw [cOp] at hel
    have hmc : m = c := by simpa using hm
    have key : ∀ i, i < n → ∃ (z0 : Bool) (z1 : Int) (z2 : Bool), (-9223372036854775808 ≤ z1 ∧ z1 ≤ 9223372036854775807) ∧ W.cell? ((a.add (i * 3)).add 0) = some (.bool z0) ∧ W.cell? ((a.add (i * 3)).add 1) = some (.int .i64 z1) ∧ W.cell? ((a.add (i * 3)).add 2) = some (.bool z2) := fun i hi => by
      obtain ⟨cs', hc, ht⟩ := hel i (by omega)
      obtain ⟨_, hlen, hat⟩ := World.cells?_some hc
      match cs', hlen with
      | [v0, v1, v2], _ =>
        obtain ⟨z0, z1, z2, hz, rfl, rfl, rfl⟩ := op_cells ht
        exact ⟨z0, z1, z2, hz, hat 0 (by omega), hat 1 (by omega), hat 2 (by omega)⟩
    by_cases hn0 : n = 0
    · subst hn0
      exact ⟨[], rfl, fun k p n on h => by simp at h, fun h => absurd rfl h⟩
    · obtain ⟨b, off, spot⟩ := a
      obtain ⟨z0, z1, z2, _, k0, _⟩ := key 0 (by omega)
      have hspot : spot = none := by simpa [Addr.add] using World.cell?_spot k0
      subst hspot
      have hadd : ∀ i j : Nat, (((⟨b, off, none⟩ : Addr).add (i * 3)).add j) = ⟨b, off + i * 3 + j, none⟩ := fun i j => by
        unfold Addr.add
        by_cases h1 : i * 3 = 0 <;> by_cases h2 : j = 0 <;> simp [h1, h2]
      have key' : ∀ i, i < n → ∃ z : Bool × Int × Bool, (-9223372036854775808 ≤ z.2.1 ∧ z.2.1 ≤ 9223372036854775807) ∧ W.cell? ⟨b, off + i * 3, none⟩ = some (.bool z.1) ∧ W.cell? ⟨b, off + i * 3 + 1, none⟩ = some (.int .i64 z.2.1) ∧ W.cell? ⟨b, off + i * 3 + 2, none⟩ = some (.bool z.2.2) := fun i hi => by
        obtain ⟨z0, z1, z2, hz, k0, k1, k2⟩ := key i hi
        rw [hadd] at k0 k1 k2
        exact ⟨(z0, z1, z2), hz, k0, k1, k2⟩
      have ex : ∃ f : Nat → Bool × Int × Bool, ∀ i, i < n → (-9223372036854775808 ≤ (f i).2.1 ∧ (f i).2.1 ≤ 9223372036854775807) ∧ W.cell? ⟨b, off + i * 3, none⟩ = some (.bool (f i).1) ∧ W.cell? ⟨b, off + i * 3 + 1, none⟩ = some (.int .i64 (f i).2.1) ∧ W.cell? ⟨b, off + i * 3 + 2, none⟩ = some (.bool (f i).2.2) :=
        ⟨fun i => if h : i < n then (key' i h).choose else (false, 0, false), fun i hi => by
          have hk := (key' i hi).choose_spec
          simp only [dif_pos hi]
          exact hk⟩
      obtain ⟨f, hf'⟩ := ex
      refine ⟨(List.range n).map f, by simp, fun k p m on hk => ?_, fun _ => ⟨b, off, rfl, lt_of_cell (hf' 0 (by omega)).2.1, fun k hk => ?_⟩⟩
      · obtain ⟨hk1, hk2⟩ := List.getElem?_eq_some_iff.1 hk
        have hk3 : k < n := by simpa using hk1
        have := (hf' k hk3).1
        simp at hk2
        rw [hk2] at this
        exact this
      · have hk' : k < n := by simpa using hk
        rw [List.getElem?_map, List.getElem?_range hk']
        exact (hf' k hk').2

end Go.Proofs.YtolhdmlphmnpbaaDoor
