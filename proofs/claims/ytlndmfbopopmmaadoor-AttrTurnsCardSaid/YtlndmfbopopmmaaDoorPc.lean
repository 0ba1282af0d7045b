/- The walk of param.number. -/
import Derived.Test.YtlndmfbopopmmaaDoorPa
namespace Go.Proofs.YtlndmfbopopmmaaDoor
open Go.RowKit

theorem numD_take (l : List UInt8) (k : Nat) (h : k < l.length) : numD (l.take (k + 1)) = min (numD (l.take k) * 10 + (((l[k]'h).toNat : Int) - 48)) 65535 := by
  rw [List.take_succ_eq_append_getElem h, numD_snoc]
end Go.Proofs.YtlndmfbopopmmaaDoor
