/- The walk of within. -/
import Derived.Test.YtlolbfbkoimjkaaDoorAg
import Derived.Deep.DeepCutAuto
import Derived.Deep.RegionWith
namespace Go.Proofs.YtlolbfbkoimjkaaDoor
open Go.RowKit

set_option maxRecDepth 100000 in
theorem colorOfV_form (k0 n0 kind : Int) (xs : List Int) : ∃ k1 n1, colorOfV k0 n0 kind xs = .agg #[.int .i64 k1, .int .i64 n1] := by
  unfold colorOfV
  split
  · exact ⟨_, _, rfl⟩
  · exact ⟨_, _, rfl⟩
set_option maxRecDepth 100000 in
theorem RI.drop {w : World} {B b off : Nat} {xs : List Int} (h : RI w B (some ⟨b, off, none⟩) xs) (j : Nat) (hj : j ≤ xs.length) : RI w B (some ⟨b, off + j, none⟩) (xs.drop j) := fun hn => by
  obtain ⟨b', off', e, hlt, hc⟩ := h (by rintro rfl; simp at hn)
  injection e with e
  injection e with e1 e2 e3
  subst e1; subst e2
  refine ⟨b, off + j, rfl, hlt, fun k hk => ?_⟩
  rw [List.length_drop] at hk
  rw [Nat.add_assoc, hc (j + k) (by omega), List.getElem?_drop]
def withinV (k0 n0 : Int) (xs : List Int) : Value := if xs[1]?.getD 0 = 5 ∧ xs.length = 3 then colorOfV k0 n0 1 (xs.drop 2) else if xs[1]?.getD 0 = 2 ∧ (xs.length = 5 ∨ xs.length = 6) then colorOfV k0 n0 2 (xs.drop (xs.length - 3)) else .agg #[.int .i64 k0, .int .i64 n0]

end Go.Proofs.YtlolbfbkoimjkaaDoor
