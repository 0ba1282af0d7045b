/- The law OscShort at what came in. -/
import Derived.Test.YtfibbdkfofnojaaDoorRo
import Derived.Test.YtfibbdkfofnojaaDoorRq
namespace Go.Proofs.YtfibbdkfofnojaaDoor
open Go.ChangeShapes Go.WideShapes Go.ChangeAt Go.WideMaps Go.WideElems Go.RowKit

theorem byte_nat {k : Int} (h : (Lit.int .u8 k).wf = true) : ∃ n : Nat, k = n ∧ n < 256 := by
  have h2 := bounds_u8 h
  exact ⟨k.toNat, by omega, by omega⟩
theorem oscShort_str (s t : ByteArray) (k : Int) (hs : s.size ≤ maxLen) (ht : t.size ≤ maxLen) (hk : (Lit.int .u8 k).wf = true) (w : World) (hO : OT w) : Calls Tryd.prog 8 #[.string s, .string t, .int .u8 k] w fun e w' => e = .returned (.bool true) ∧ Below w.heap.size w w' := by
  obtain ⟨n, rfl, hn⟩ := byte_nat hk
  have h := oscShort_law s.data.toList t.data.toList (size_of_wf hs) (size_of_wf ht) n hn w hO
  rwa [← bs_of s, ← bs_of t] at h
end Go.Proofs.YtfibbdkfofnojaaDoor
