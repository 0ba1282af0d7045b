/- The law HuntNext of a string that came in. -/
import Derived.Test.YtdfhbonfjpnifaaL2
import Derived.Test.YtdfhbonfjpnifaaL7
namespace Go.Proofs.Ytdfhbonfjpnifaa
open Go.ChangeShapes Go.WideShapes Go.ChangeAt Go.WideMaps Go.WideElems Go.RowKit

theorem huntNext_str (s : ByteArray) (z : Int) (hz0 : 0 ≤ z) (xs : List (List UInt8)) (n c : Nat) (A : Option Addr) (hn : n = xs.length) (h63 : n ≤ 9223372036854775807) (w : World) (hR : RT w w.heap.size A xs) : Calls Try.prog 4 #[.string s, .slice A n c, .int .u8 z] w fun e w' => e = .returned (.bool true) ∧ Below w.heap.size w w' := by
  rw [bs_of s]
  exact huntNext_law _ xs z hz0 n c A hn h63 w hR
end Go.Proofs.Ytdfhbonfjpnifaa
