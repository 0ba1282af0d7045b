/- A place that came in by value. -/
import Derived.Test.YtfgnlohnalgnpaaE8
namespace Go.Proofs.Ytfgnlohnalgnpaa
open Go.ChangeShapes Go.WideShapes Go.ChangeAt Go.WideMaps Go.WideElems Go.RowKit

theorem arr_two {α : Type} {a : Array α} (h : a.size = 2) : ∃ x y, a = #[x, y] := by
  obtain ⟨l⟩ := a
  match l, h with
  | [x, y], _ => exact ⟨x, y, rfl⟩
theorem open_place {H : Type} {enc : TypeId × Value → H} {W : World} {base : Nat} {v : Value} {d : DataW H} {p : List MemPlace} (hv : Value.okWide Try.prog W .any base 37 v) (h : DataW.Trod enc Try.prog W 0 (fun _ => true) true 37 v d p) :
    ∃ a b : Int, v = .agg #[.int .i64 a, .int .i64 b] := by
  obtain ⟨cs, rfl, hsz⟩ := okWide_struct Try.underlying37 hv
  rw [cPos] at hsz
  obtain ⟨v0, v1, rfl⟩ := arr_two hsz
  obtain ⟨fuel, hf⟩ := h
  obtain ⟨z0, z1, rfl, rfl, _⟩ := pos_cells hf
  exact ⟨z0, z1, rfl⟩

end Go.Proofs.Ytfgnlohnalgnpaa
