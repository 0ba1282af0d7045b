/- The law HuntFirst of a string that came in. -/
import Derived.Test.YtdfhbonfjpnifaaL2
import Derived.Test.YtdfhbonfjpnifaaL4
namespace Go.Proofs.Ytdfhbonfjpnifaa
open Go.ChangeShapes Go.WideShapes Go.ChangeAt Go.WideMaps Go.WideElems Go.RowKit

theorem huntFirst_str (s : ByteArray) (z : Int) (xs : List (List UInt8)) (n c : Nat) (A : Option Addr) (hn : n = xs.length) (h63 : n ≤ 9223372036854775807) (w : World) (hR : RT w w.heap.size A xs) : Calls Try.prog 5 #[.string s, .int .i64 z, .slice A n c] w fun e w' => e = .returned (.bool true) ∧ Below w.heap.size w w' := by
  rw [bs_of s]
  exact huntFirst_law _ xs z n c A hn h63 w hR
end Go.Proofs.Ytdfhbonfjpnifaa
