/- Bytes of a text by their place; the walks of what each byte means. -/
import Derived.Test.YtjifekdjkjnefaaF1
import Derived.Test.YtjifekdjkjnefaaKi
namespace Go.Proofs.Ytjifekdjkjnefaa
open Go.RowKit

def bsB (l : List UInt8) : ByteArray := ⟨l.toArray⟩
theorem bsB_app (l m : List UInt8) : bsB l ++ bsB m = bsB (l ++ m) := by
  apply ByteArray.ext
  rw [ByteArray.data_append]
  simp [bsB]
theorem bsB_size (l : List UInt8) : (bsB l).size = l.length := by simp [bsB, ByteArray.size]
theorem bs_toList (l : List UInt8) : (bsB l).toList = l := by rw [Lib.toList_data]; rfl
theorem bs_of (s : ByteArray) : s = bsB s.data.toList := by
  apply ByteArray.ext
  simp [bsB]
theorem idx_bs (l : List UInt8) (k : Nat) (h : k < l.length) (W : World) : (Instr.index 9 (.string (bsB l)) (.int .i64 k)).run Try.prog W = .ok (.int .u8 (l[k]?.getD 0).toNat) W := by
  rw [run_index_string W 9 (bsB l) .i64 k Try.underlying9, dif_pos (by rw [bsB_size]; omega), List.getElem?_eq_getElem h]
  rfl
def idL (c : UInt8) : UInt8 := c
def lowL (c : UInt8) : UInt8 := if 65 ≤ c ∧ c ≤ 90 then c + 32 else c
theorem itself_any (c : UInt8) (w : World) : Calls Try.prog 34 #[.int .u8 c.toNat] w fun e w' => e = .returned (.int .u8 (idL c).toNat) ∧ w = w' := by
  go_enter Try.func34, Try.ntmps34
  go_wp2
  go_ret
  exact ⟨rfl, rfl⟩
end Go.Proofs.Ytjifekdjkjnefaa
