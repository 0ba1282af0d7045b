/- What the frames of shift's laws need: the program's own facts; what came in, opened. -/
import Derived.Test.YtbloekdhafoniaaEi
import Derived.ProofKit
import Derived.OpenShut
import Derived.Deep.Slices
namespace Go.Proofs.Ytbloekdhafoniaa
open Go.ChangeShapes Go.WideShapes Go.ChangeAt Go.WideMaps Go.WideElems Go.RowKit

theorem own : ownKnob Try.prog.godebug = none := by kernel_rfl
theorem laidOut : laidOutB Try.prog = true := by kernel_rfl
theorem cInt : Try.prog.cellsOf 3 = 1 := by kernel_rfl
theorem cPos : Try.prog.cellsOf 23 = 2 := by kernel_rfl
theorem cShift : Try.prog.cellsOf 25 = 3 := by kernel_rfl
theorem cArr2 : Try.prog.cellsOf 40 = 2 := by kernel_rfl
theorem lt_of_cell {w : World} {b o : Nat} {v : Value} (h : w.cell? ⟨b, o, none⟩ = some v) : b < w.heap.size := by
  rcases Nat.lt_or_ge b w.heap.size with hl | hl
  · exact hl
  · simp [World.cell?, Array.getElem?_eq_none hl] at h
theorem arr_two {cs : Array Value} (h : cs.size = 2) : ∃ v0 v1, cs = #[v0, v1] := by
  obtain ⟨l⟩ := cs
  match l, h with
  | [v0, v1], _ => exact ⟨v0, v1, rfl⟩
  | [], h => simp at h
  | [_], h => simp at h
  | _ :: _ :: _ :: _, h => simp at h
theorem arr_three {cs : Array Value} (h : cs.size = 3) : ∃ v0 v1 v2, cs = #[v0, v1, v2] := by
  obtain ⟨l⟩ := cs
  match l, h with
  | [v0, v1, v2], _ => exact ⟨v0, v1, v2, rfl⟩
  | [], h => simp at h
  | [_], h => simp at h
  | [_, _], h => simp at h
  | _ :: _ :: _ :: _ :: _, h => simp at h
theorem pos_cells {H : Type} {enc : TypeId × Value → H} {W : World} {m : Nat} {v0 v1 : Value} {d : DataW H × List MemPlace} (ht : DataW.trod enc Try.prog W 0 (fun _ => true) true m 23 [v0, v1] = some d) : ∃ z0 z1 : Int, v0 = .int .i64 z0 ∧ v1 = .int .i64 z1 := by
  obtain ⟨xs, m', rfl, _, hcl, hl2, hg⟩ := DataW.trod_struct Try.underlying23 ht
  have g0 : DataW.trod enc Try.prog W 0 (fun _ => true) true m' 3 (([v0, v1].drop 0).take (Try.prog.cellsOf 3)) = xs[0]? := hg 0 _ rfl
  have g1 : DataW.trod enc Try.prog W 0 (fun _ => true) true m' 3 (([v0, v1].drop 1).take (Try.prog.cellsOf 3)) = xs[1]? := hg 1 _ rfl
  have hx2 : xs.length = 2 := hl2
  rw [cInt, List.getElem?_eq_getElem (by omega)] at g0 g1
  obtain ⟨z0, b0, _⟩ := DataW.trod_int Try.underlying3 g0
  obtain ⟨z1, b1, _⟩ := DataW.trod_int Try.underlying3 g1
  simp at b0 b1
  exact ⟨z0, z1, b0, b1⟩
theorem shift_cells {H : Type} {enc : TypeId × Value → H} {W : World} {m : Nat} {v0 v1 v2 : Value} {d : DataW H × List MemPlace} (ht : DataW.trod enc Try.prog W 0 (fun _ => true) true m 25 [v0, v1, v2] = some d) : ∃ z0 z1 z2 : Int, v0 = .int .i64 z0 ∧ v1 = .int .i64 z1 ∧ v2 = .int .i64 z2 := by
  obtain ⟨xs, m', rfl, _, hcl, hl2, hg⟩ := DataW.trod_struct Try.underlying25 ht
  have g0 : DataW.trod enc Try.prog W 0 (fun _ => true) true m' 3 (([v0, v1, v2].drop 0).take (Try.prog.cellsOf 3)) = xs[0]? := hg 0 _ rfl
  have g1 : DataW.trod enc Try.prog W 0 (fun _ => true) true m' 3 (([v0, v1, v2].drop 1).take (Try.prog.cellsOf 3)) = xs[1]? := hg 1 _ rfl
  have g2 : DataW.trod enc Try.prog W 0 (fun _ => true) true m' 3 (([v0, v1, v2].drop 2).take (Try.prog.cellsOf 3)) = xs[2]? := hg 2 _ rfl
  have hx2 : xs.length = 3 := hl2
  rw [cInt, List.getElem?_eq_getElem (by omega)] at g0 g1 g2
  obtain ⟨z0, b0, _⟩ := DataW.trod_int Try.underlying3 g0
  obtain ⟨z1, b1, _⟩ := DataW.trod_int Try.underlying3 g1
  obtain ⟨z2, b2, _⟩ := DataW.trod_int Try.underlying3 g2
  simp at b0 b1 b2
  exact ⟨z0, z1, z2, b0, b1, b2⟩
/-- A place that came in by value. -/
theorem open_pos {H : Type} {enc : TypeId × Value → H} {W : World} {base : Nat} {v : Value} {d : DataW H} {p : List MemPlace} (hv : Value.okWide Try.prog W .any base 23 v) (h : DataW.Trod enc Try.prog W 0 (fun _ => true) true 23 v d p) :
    ∃ a b : Int, v = .agg #[.int .i64 a, .int .i64 b] := by
  obtain ⟨cs, rfl, hsz⟩ := okWide_struct Try.underlying23 hv
  rw [cPos] at hsz
  obtain ⟨v0, v1, rfl⟩ := arr_two hsz
  obtain ⟨fuel, hf⟩ := h
  obtain ⟨z0, z1, rfl, rfl⟩ := pos_cells hf
  exact ⟨z0, z1, rfl⟩
/-- A shift that came in by value. -/
theorem open_shift {H : Type} {enc : TypeId × Value → H} {W : World} {base : Nat} {v : Value} {d : DataW H} {p : List MemPlace} (hv : Value.okWide Try.prog W .any base 25 v) (h : DataW.Trod enc Try.prog W 0 (fun _ => true) true 25 v d p) :
    ∃ a b c : Int, v = .agg #[.int .i64 a, .int .i64 b, .int .i64 c] := by
  obtain ⟨cs, rfl, hsz⟩ := okWide_struct Try.underlying25 hv
  rw [cShift] at hsz
  obtain ⟨v0, v1, v2, rfl⟩ := arr_three hsz
  obtain ⟨fuel, hf⟩ := h
  obtain ⟨z0, z1, z2, rfl, rfl, rfl⟩ := shift_cells hf
  exact ⟨z0, z1, z2, rfl⟩
/-- Two numbers that came in by value. -/
theorem open_two {H : Type} {enc : TypeId × Value → H} {W : World} {base : Nat} {v : Value} {d : DataW H} {p : List MemPlace} (hv : Value.okWide Try.prog W .any base 40 v) (h : DataW.Trod enc Try.prog W 0 (fun _ => true) true 40 v d p) :
    ∃ a b : Int, v = .agg #[.int .i64 a, .int .i64 b] := by
  simp only [Value.okWide, Try.underlying40] at hv
  obtain ⟨cs, rfl, hsz, _⟩ := hv
  rw [cArr2] at hsz
  obtain ⟨v0, v1, rfl⟩ := arr_two hsz
  obtain ⟨fuel, hf⟩ := h
  obtain ⟨xs, m, rfl, _, _, hn, hel⟩ := DataW.trod_array Try.underlying40 hf
  rw [cInt] at hel
  have h0 := hel 0 (by omega)
  have h1 := hel 1 (by omega)
  rw [List.getElem?_eq_getElem (by omega)] at h0 h1
  obtain ⟨z0, b0, _⟩ := DataW.trod_int Try.underlying3 h0
  obtain ⟨z1, b1, b2⟩ := DataW.trod_int Try.underlying3 h1
  simp [Value.cells] at b0 b1
  subst b0; subst b1
  exact ⟨z0, z1, rfl⟩
/-- A slice of shifts that came in. -/
theorem open_shifts {H : Type} {enc : TypeId × Value → H} {W : World} {A : Option Addr} {n c : Nat} {d : DataW H} {p : List MemPlace} (h : DataW.Trod enc Try.prog W 0 (fun _ => true) true 34 (.slice A n c) d p) :
    ∃ xs : List (Int × Int × Int), n = xs.length ∧ RSh W W.heap.size A xs := by
  obtain ⟨fuel, hf⟩ := h
  rcases Go.Deep.open_slice Try.underlying34 hf with ⟨hcs, _⟩ | ⟨a, len, cap, m, n', D, Pl, hcs, _, hl, _, hm, _, hel⟩
  · have e : Value.slice A n c = .slice none 0 0 := by simpa [Value.cells] using hcs
    injection e with e1 e2 e3
    subst e1; subst e2
    exact ⟨[], rfl, fun h => absurd rfl h⟩
  · have e : Value.slice A n c = .slice (some a) len cap := by simpa [Value.cells] using hcs
    injection e with e1 e2 e3
    subst e1; subst e2; subst e3
    rw [cShift] at hel
    have hmc : m = c := by simpa using hm
    have key : ∀ i, i < n → ∃ z0 z1 z2 : Int, W.cell? ((a.add (i * 3)).add 0) = some (.int .i64 z0) ∧ W.cell? ((a.add (i * 3)).add 1) = some (.int .i64 z1) ∧ W.cell? ((a.add (i * 3)).add 2) = some (.int .i64 z2) := fun i hi => by
      obtain ⟨cs', hc, ht⟩ := hel i (by omega)
      obtain ⟨_, hlen, hat⟩ := World.cells?_some hc
      match cs', hlen with
      | [v0, v1, v2], _ =>
        obtain ⟨z0, z1, z2, rfl, rfl, rfl⟩ := shift_cells ht
        exact ⟨z0, z1, z2, hat 0 (by omega), hat 1 (by omega), hat 2 (by omega)⟩
    by_cases hn0 : n = 0
    · subst hn0
      exact ⟨[], rfl, fun h => absurd rfl h⟩
    · obtain ⟨b, off, spot⟩ := a
      obtain ⟨z0, z1, z2, k0, _⟩ := key 0 (by omega)
      have hspot : spot = none := by simpa [Addr.add] using World.cell?_spot k0
      subst hspot
      have hadd : ∀ i j : Nat, (((⟨b, off, none⟩ : Addr).add (i * 3)).add j) = ⟨b, off + i * 3 + j, none⟩ := fun i j => by
        unfold Addr.add
        by_cases h1 : i * 3 = 0 <;> by_cases h2 : j = 0 <;> simp [h1, h2]
      have key' : ∀ i, i < n → ∃ z : Int × Int × Int, W.cell? ⟨b, off + i * 3, none⟩ = some (.int .i64 z.1) ∧ W.cell? ⟨b, off + i * 3 + 1, none⟩ = some (.int .i64 z.2.1) ∧ W.cell? ⟨b, off + i * 3 + 2, none⟩ = some (.int .i64 z.2.2) := fun i hi => by
        obtain ⟨z0, z1, z2, k0, k1, k2⟩ := key i hi
        rw [hadd] at k0 k1 k2
        exact ⟨(z0, z1, z2), k0, k1, k2⟩
      have ex : ∃ f : Nat → Int × Int × Int, ∀ i, i < n → W.cell? ⟨b, off + i * 3, none⟩ = some (.int .i64 (f i).1) ∧ W.cell? ⟨b, off + i * 3 + 1, none⟩ = some (.int .i64 (f i).2.1) ∧ W.cell? ⟨b, off + i * 3 + 2, none⟩ = some (.int .i64 (f i).2.2) :=
        ⟨fun i => if h : i < n then (key' i h).choose else (0, 0, 0), fun i hi => by
          have hk := (key' i hi).choose_spec
          simp only [dif_pos hi]
          exact hk⟩
      obtain ⟨f, hf'⟩ := ex
      refine ⟨(List.range n).map f, by simp, fun _ => ⟨b, off, rfl, lt_of_cell (hf' 0 (by omega)).1, fun k hk => ?_⟩⟩
      have hk' : k < n := by simpa using hk
      rw [List.getElem?_map, List.getElem?_range hk']
      exact hf' k hk'
end Go.Proofs.Ytbloekdhafoniaa
