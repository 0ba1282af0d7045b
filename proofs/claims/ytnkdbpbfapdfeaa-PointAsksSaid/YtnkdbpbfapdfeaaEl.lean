/- What the frames of shift's laws need: the program's own facts; what came in, opened. -/
import Derived.Test.YtnkdbpbfapdfeaaEi
import Derived.ProofKit
import Derived.OpenShut
import Derived.Deep.Slices
namespace Go.Proofs.Ytnkdbpbfapdfeaa
open Go.ChangeShapes Go.WideShapes Go.ChangeAt Go.WideMaps Go.WideElems Go.RowKit

theorem own : ownKnob Try.prog.godebug = none := by kernel_rfl
theorem laidOut : laidOutB Try.prog = true := by kernel_rfl
theorem cInt : Try.prog.cellsOf 3 = 1 := by kernel_rfl
theorem cPos : Try.prog.cellsOf 30 = 2 := by kernel_rfl
theorem cShift : Try.prog.cellsOf 32 = 3 := by kernel_rfl
theorem lt_of_cell {w : World} {b o : Nat} {v : Value} (h : w.cell? ⟨b, o, none⟩ = some v) : b < w.heap.size := by
  rcases Nat.lt_or_ge b w.heap.size with hl | hl
  · exact hl
  · simp [World.cell?, Array.getElem?_eq_none hl] at h
theorem arr_two {cs : Array Value} (h : cs.size = 2) : ∃ v0 v1, cs = #[v0, v1] := by
  obtain ⟨l⟩ := cs
  match l, h with
  | [v0, v1], _ => exact ⟨v0, v1, rfl⟩
  | [], h => simp at h
  | [_], h => simp at h
  | _ :: _ :: _ :: _, h => simp at h
theorem arr_three {cs : Array Value} (h : cs.size = 3) : ∃ v0 v1 v2, cs = #[v0, v1, v2] := by
  obtain ⟨l⟩ := cs
  match l, h with
  | [v0, v1, v2], _ => exact ⟨v0, v1, v2, rfl⟩
  | [], h => simp at h
  | [_], h => simp at h
  | [_, _], h => simp at h
  | _ :: _ :: _ :: _ :: _, h => simp at h
theorem pos_cells {H : Type} {enc : TypeId × Value → H} {W : World} {m : Nat} {v0 v1 : Value} {d : DataW H × List MemPlace} (ht : DataW.trod enc Try.prog W 0 (fun _ => true) true m 30 [v0, v1] = some d) : ∃ z0 z1 : Int, v0 = .int .i64 z0 ∧ v1 = .int .i64 z1 := by
  obtain ⟨xs, m', rfl, _, hcl, hl2, hg⟩ := DataW.trod_struct Try.underlying30 ht
  have g0 : DataW.trod enc Try.prog W 0 (fun _ => true) true m' 3 (([v0, v1].drop 0).take (Try.prog.cellsOf 3)) = xs[0]? := hg 0 _ rfl
  have g1 : DataW.trod enc Try.prog W 0 (fun _ => true) true m' 3 (([v0, v1].drop 1).take (Try.prog.cellsOf 3)) = xs[1]? := hg 1 _ rfl
  have hx2 : xs.length = 2 := hl2
  rw [cInt, List.getElem?_eq_getElem (by omega)] at g0 g1
  obtain ⟨z0, b0, _⟩ := DataW.trod_int Try.underlying3 g0
  obtain ⟨z1, b1, _⟩ := DataW.trod_int Try.underlying3 g1
  simp at b0 b1
  exact ⟨z0, z1, b0, b1⟩
theorem shift_cells {H : Type} {enc : TypeId × Value → H} {W : World} {m : Nat} {v0 v1 v2 : Value} {d : DataW H × List MemPlace} (ht : DataW.trod enc Try.prog W 0 (fun _ => true) true m 32 [v0, v1, v2] = some d) : ∃ z0 z1 z2 : Int, v0 = .int .i64 z0 ∧ v1 = .int .i64 z1 ∧ v2 = .int .i64 z2 := by
  obtain ⟨xs, m', rfl, _, hcl, hl2, hg⟩ := DataW.trod_struct Try.underlying32 ht
  have g0 : DataW.trod enc Try.prog W 0 (fun _ => true) true m' 3 (([v0, v1, v2].drop 0).take (Try.prog.cellsOf 3)) = xs[0]? := hg 0 _ rfl
  have g1 : DataW.trod enc Try.prog W 0 (fun _ => true) true m' 3 (([v0, v1, v2].drop 1).take (Try.prog.cellsOf 3)) = xs[1]? := hg 1 _ rfl
  have g2 : DataW.trod enc Try.prog W 0 (fun _ => true) true m' 3 (([v0, v1, v2].drop 2).take (Try.prog.cellsOf 3)) = xs[2]? := hg 2 _ rfl
  have hx2 : xs.length = 3 := hl2
  rw [cInt, List.getElem?_eq_getElem (by omega)] at g0 g1 g2
  obtain ⟨z0, b0, _⟩ := DataW.trod_int Try.underlying3 g0
  obtain ⟨z1, b1, _⟩ := DataW.trod_int Try.underlying3 g1
  obtain ⟨z2, b2, _⟩ := DataW.trod_int Try.underlying3 g2
  simp at b0 b1 b2
  exact ⟨z0, z1, z2, b0, b1, b2⟩
/-- A place that came in by value. -/
theorem open_pos {H : Type} {enc : TypeId × Value → H} {W : World} {base : Nat} {v : Value} {d : DataW H} {p : List MemPlace} (hv : Value.okWide Try.prog W .any base 30 v) (h : DataW.Trod enc Try.prog W 0 (fun _ => true) true 30 v d p) :
    ∃ a b : Int, v = .agg #[.int .i64 a, .int .i64 b] := by
  obtain ⟨cs, rfl, hsz⟩ := okWide_struct Try.underlying30 hv
  rw [cPos] at hsz
  obtain ⟨v0, v1, rfl⟩ := arr_two hsz
  obtain ⟨fuel, hf⟩ := h
  obtain ⟨z0, z1, rfl, rfl⟩ := pos_cells hf
  exact ⟨z0, z1, rfl⟩
/-- A shift that came in by value. -/
theorem open_shift {H : Type} {enc : TypeId × Value → H} {W : World} {base : Nat} {v : Value} {d : DataW H} {p : List MemPlace} (hv : Value.okWide Try.prog W .any base 32 v) (h : DataW.Trod enc Try.prog W 0 (fun _ => true) true 32 v d p) :
    ∃ a b c : Int, v = .agg #[.int .i64 a, .int .i64 b, .int .i64 c] := by
  obtain ⟨cs, rfl, hsz⟩ := okWide_struct Try.underlying32 hv
  rw [cShift] at hsz
  obtain ⟨v0, v1, v2, rfl⟩ := arr_three hsz
  obtain ⟨fuel, hf⟩ := h
  obtain ⟨z0, z1, z2, rfl, rfl, rfl⟩ := shift_cells hf
  exact ⟨z0, z1, z2, rfl⟩
end Go.Proofs.Ytnkdbpbfapdfeaa
