/- The walks of Great and of the law ParamCleans. -/
import Derived.Test.YtlolbfbkoimjkaaDoorPo
import Derived.Test.YtlolbfbkoimjkaaDoorPg
namespace Go.Proofs.YtlolbfbkoimjkaaDoor
open Go.RowKit

def greatB (l : List (List Int)) : Bool := decide (60 < l.length) || l.any fun r => decide (20 < r.length)
theorem great_no {l : List (List Int)} (h : greatB l = false) : l.length ≤ 60 ∧ ∀ r ∈ l, r.length ≤ 20 := by
  unfold greatB at h
  rw [Bool.or_eq_false_iff] at h
  refine ⟨by have := of_decide_eq_false h.1; omega, fun r hr => ?_⟩
  have := List.any_eq_false.1 h.2 r hr
  simp at this
  omega
theorem great_row (l : List (List Int)) (k : Nat) (h : k < l.length) (h20 : 20 < (l[k]?.getD []).length) : greatB l = true := by
  unfold greatB
  rw [Bool.or_eq_true]
  refine .inr (List.any_eq_true.2 ⟨l[k], List.getElem_mem h, ?_⟩)
  rw [List.getElem?_eq_getElem h] at h20
  exact decide_eq_true h20
end Go.Proofs.YtlolbfbkoimjkaaDoor
