/- The walks of slices.Equal at cells, and of blank. -/
import Derived.Test.YtfjgfmeanehpmaaGj
namespace Go.Proofs.Ytfjgfmeanehpmaa
open Go.RowKit

/-- A blank. -/
def blankC (k n : Int) : CC := ⟨0, ⟨#[]⟩, 0, 0, 0, k, n, 0⟩
def blankK (L : List CC) (s : Nat) (x : CC) : Nat → List CC
  | 0 => L
  | k + 1 => (blankK L s x k).set (s + k) x
theorem blankK_len (L : List CC) (s : Nat) (x : CC) : ∀ k, (blankK L s x k).length = L.length
  | 0 => rfl
  | k + 1 => by
    unfold blankK
    rw [List.length_set, blankK_len L s x k]
end Go.Proofs.Ytfjgfmeanehpmaa
