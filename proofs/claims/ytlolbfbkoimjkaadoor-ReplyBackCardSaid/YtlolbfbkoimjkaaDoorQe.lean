/- The walk of the law ParamBack. -/
import Derived.Test.YtlolbfbkoimjkaaDoorQd
namespace Go.Proofs.YtlolbfbkoimjkaaDoor
open Go.RowKit

def colT (j : Nat) : List UInt8 := if 0 < j then [58] else []
def partT (r : List Int) : List UInt8 := (r.zipIdx.map fun p => colT p.2 ++ numT p.1).flatten
set_option maxRecDepth 100000 in
theorem partT_snoc (r : List Int) (z : Int) : partT (r ++ [z]) = partT r ++ colT r.length ++ numT z := by
  simp [partT, List.zipIdx_append]
set_option maxRecDepth 100000 in
theorem rowT_part (i : Nat) (r : List Int) : r ≠ [] → rowT i r = sepT i 0 ++ partT r := by
  refine snoc_ind (P := fun r => r ≠ [] → rowT i r = sepT i 0 ++ partT r) (fun h => absurd rfl h) (fun r z ih _ => ?_) r
  rw [rowT_snoc, partT_snoc]
  cases r with
  | nil => simp [rowT, partT, colT]
  | cons v t =>
    have e1 : sepT i (v :: t).length = [58] := if_pos (by simp)
    have e2 : colT (v :: t).length = [58] := if_pos (by simp)
    rw [ih (by simp), e1, e2]
    simp
set_option maxRecDepth 100000 in
theorem partT_len (r : List Int) : (∀ z ∈ r, (numT z).length ≤ 21) → (partT r).length ≤ r.length * 22 := by
  refine snoc_ind (P := fun r => (∀ z ∈ r, (numT z).length ≤ 21) → (partT r).length ≤ r.length * 22) (fun _ => by simp [partT]) (fun r z ih h => ?_) r
  rw [partT_snoc]
  simp only [List.length_append, List.length_singleton]
  have : (colT r.length).length ≤ 1 := by unfold colT; split <;> simp
  have := h z (by simp)
  have := ih (fun z hz => h z (by simp [hz]))
  omega
/-- What the rows read as. -/
def GridAt (w : World) (b off n : Nat) (L : List (List Int)) : Prop :=
  ∀ k, k < n → ∃ br offr ci, ∀ W, Below w.heap.size w W → W.cell? ⟨b, off + k, none⟩ = some (.slice (some ⟨br, offr, none⟩) (L[k]?.getD []).length ci) ∧ ∀ j, j < (L[k]?.getD []).length → W.cell? ⟨br, offr + j, none⟩ = some (.int .i64 ((L[k]?.getD [])[j]?.getD 0))
set_option maxRecDepth 100000 in
theorem grid_at {w : World} {A : Option Addr} {L : List (List Int)} (h : RG w w.heap.size A L) (hne : L ≠ []) (hr : ∀ r ∈ L, r ≠ []) : ∃ b off, A = some ⟨b, off, none⟩ ∧ GridAt w b off L.length L := by
  obtain ⟨b, off, rfl, hb, hc⟩ := h hne
  refine ⟨b, off, rfl, fun k hk => ?_⟩
  obtain ⟨Ai, ci, h1, h2, h3⟩ := hc k hk
  have hl := hr (L[k]?.getD []) (by rw [List.getElem?_eq_getElem hk]; exact List.getElem_mem hk)
  obtain ⟨br, offr, rfl, hbr, hcr⟩ := h2 hl
  exact ⟨br, offr, ci, fun W hW => ⟨(hW.cell (p := ⟨b, off + k, none⟩) hb).trans h1, fun j hj => (hW.cell (p := ⟨br, offr + j, none⟩) hbr).trans (hcr j hj)⟩⟩
set_option maxRecDepth 100000 in
theorem bsB_one (T : List UInt8) (x : UInt8) : bsB T ++ (⟨#[x]⟩ : ByteArray) = bsB (T ++ [x]) := bsB_app T [x]
end Go.Proofs.YtlolbfbkoimjkaaDoor
