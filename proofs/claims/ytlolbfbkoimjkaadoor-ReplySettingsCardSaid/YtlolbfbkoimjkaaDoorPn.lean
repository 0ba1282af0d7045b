/- The walk of each with Clean's function; Clean. -/
import Derived.Test.YtlolbfbkoimjkaaDoorPm
import Derived.LoopN
namespace Go.Proofs.YtlolbfbkoimjkaaDoor
open Go.RowKit

/-- Clean values, rows, groups. -/
def clampV (v : Int) : Int := min (max v (-1)) 65535
def rowZ (g : List Int) : List Int := if g = [] then [-1] else (g.take 8).map clampV
def cleanL (l : List (List Int)) : List (List Int) := if l = [] then [[-1]] else (l.take 32).map rowZ

def eachC_anyPost (w0 : World) (lb : Nat) (D : List (List Int)) (e : Ending) (w' : World) : Prop := ∃ v', e = .returned (.tuple #[]) ∧ CI w0 w' lb D [] v'
theorem cleanL_len (l : List (List Int)) : 1 ≤ (cleanL l).length ∧ (cleanL l).length ≤ 32 := by
  unfold cleanL
  split
  · simp
  · rename_i h
    have := List.length_pos_iff.2 h
    simp
    omega
theorem rowZ_len (g : List Int) : 1 ≤ (rowZ g).length ∧ (rowZ g).length ≤ 8 := by
  unfold rowZ
  split
  · simp
  · rename_i h
    have := List.length_pos_iff.2 h
    simp
    omega
theorem cleanL_rows (l : List (List Int)) : ∀ r ∈ cleanL l, 1 ≤ r.length ∧ r.length ≤ 8 := fun r hr => by
  unfold cleanL at hr
  split at hr
  · simp at hr
    subst hr
    simp
  · obtain ⟨g, _, rfl⟩ := List.mem_map.1 hr
    exact rowZ_len g
theorem cleanL_row (l : List (List Int)) (i : Nat) : ((cleanL l)[i]?.getD []).length ≤ 9223372036854775807 := by
  cases h : (cleanL l)[i]? with
  | none => simp
  | some r =>
    have := (cleanL_rows l r (List.mem_of_getElem? h)).2
    simp
    omega
/-- Rows that a call has built. -/
def RowsPost (L : List (List Int)) (w : World) (e : Ending) (w' : World) : Prop := ∃ A c, e = .returned (.slice A L.length c) ∧ L.length ≤ c ∧ RG w' w'.heap.size A L ∧ Below w.heap.size w w'
end Go.Proofs.YtlolbfbkoimjkaaDoor
