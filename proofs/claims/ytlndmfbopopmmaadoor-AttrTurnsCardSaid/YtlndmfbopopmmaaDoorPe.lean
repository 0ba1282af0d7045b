/- The walks of pieces with Parse's inner function, and of Parse's outer function. -/
import Derived.Test.YtlndmfbopopmmaaDoorPd
namespace Go.Proofs.YtlndmfbopopmmaaDoor
open Go.RowKit

theorem cut_len (c : UInt8) (l : List UInt8) : (Lib.cut l [c]).1.length ≤ l.length ∧ (Lib.cut l [c]).2.1.length ≤ l.length := by
  unfold Lib.cut
  split <;> simp
  omega
theorem below_drewN {B : Nat} {a w : World} (h : Below B a w) (n : Nat) : Below B a (w.drewN n) := ⟨h.os, h.tape, h.output, h.size, h.block⟩

def piecesIn_anyPost (l : List UInt8) (w0 : World) (gb : Nat) (e : Ending) (w' : World) : Prop := ∃ v', e = .returned (.tuple #[]) ∧ GI w0 w' gb (((splitB 58 l).take 8).map numZ) v'
end Go.Proofs.YtlndmfbopopmmaaDoor
