/- Bytes of a text by their place; the walks of what each byte means. -/
import Derived.Test.YtmkgjfinmojjnaaF1
import Derived.Test.YtmkgjfinmojjnaaKi
namespace Go.Proofs.Ytmkgjfinmojjnaa
open Go.RowKit

def bsB (l : List UInt8) : ByteArray := ⟨l.toArray⟩
theorem bsB_app (l m : List UInt8) : bsB l ++ bsB m = bsB (l ++ m) := by
  apply ByteArray.ext
  rw [ByteArray.data_append]
  simp [bsB]
theorem bsB_size (l : List UInt8) : (bsB l).size = l.length := by simp [bsB, ByteArray.size]
theorem bs_toList (l : List UInt8) : (bsB l).toList = l := by rw [Lib.toList_data]; rfl
theorem bs_of (s : ByteArray) : s = bsB s.data.toList := by
  apply ByteArray.ext
  simp [bsB]
theorem idx_bs (l : List UInt8) (k : Nat) (h : k < l.length) (W : World) : (Instr.index 9 (.string (bsB l)) (.int .i64 k)).run Try.prog W = .ok (.int .u8 (l[k]?.getD 0).toNat) W := by
  rw [run_index_string W 9 (bsB l) .i64 k Try.underlying9, dif_pos (by rw [bsB_size]; omega), List.getElem?_eq_getElem h]
  rfl
def idL (c : UInt8) : UInt8 := c
def lowL (c : UInt8) : UInt8 := if 65 ≤ c ∧ c ≤ 90 then c + 32 else c
theorem itself_any (c : UInt8) (w : World) : Calls Try.prog 20 #[.int .u8 c.toNat] w fun e w' => e = .returned (.int .u8 (idL c).toNat) ∧ w = w' := by
  go_enter Try.func20, Try.ntmps20
  go_wp2
  go_ret
  exact ⟨rfl, rfl⟩
theorem loose_any (c : UInt8) (w : World) : Calls Try.prog 21 #[.int .u8 c.toNat] w fun e w' => e = .returned (.int .u8 (lowL c).toNat) ∧ w = w' := by
  have hc := c.toNat_lt
  by_cases h : 65 ≤ c ∧ c ≤ 90
  · have HE : Hid (((lowL c).toNat : Int) = (c.toNat : Int) - 65 + 97) := Lib.hid (by
      unfold lowL
      rw [if_pos h]
      have h1 : 65 ≤ c.toNat := by simpa [UInt8.le_iff_toNat_le] using h.1
      have h2 : c.toNat ≤ 90 := by simpa [UInt8.le_iff_toNat_le] using h.2
      rw [UInt8.toNat_add]
      show (((c.toNat + 32) % 256 : Nat) : Int) = _
      omega)
    have h1 : (65 : Int) ≤ c.toNat := by have : 65 ≤ c.toNat := by simpa [UInt8.le_iff_toNat_le] using h.1
                                         omega
    have h2 : (c.toNat : Int) ≤ 90 := by have : c.toNat ≤ 90 := by simpa [UInt8.le_iff_toNat_le] using h.2
                                         omega
    have hw1 : IntKind.u8.wrap ((c.toNat : Int) - 65) = (c.toNat : Int) - 65 := by rw [IntKind.wrap_u8]; omega
    have hw2 : IntKind.u8.wrap ((c.toNat : Int) - 65 + 97) = (c.toNat : Int) - 65 + 97 := by rw [IntKind.wrap_u8]; omega
    clear h
    generalize c.toNat = n at *
    go_enter Try.func21, Try.ntmps21
    go_wp2
    go_ret
    exact ⟨by rw [HE.out]; rfl, rfl⟩
  · have HE : Hid (((lowL c).toNat : Int) = (c.toNat : Int)) := Lib.hid (by unfold lowL; rw [if_neg h])
    have h3 : c.toNat < 65 ∨ 90 < c.toNat := by
      simp [UInt8.le_iff_toNat_le] at h
      omega
    clear h
    generalize c.toNat = n at *
    rcases h3 with h3 | h3
    · have h4 : ¬ ((65 : Int) ≤ n) := by omega
      go_enter Try.func21, Try.ntmps21
      go_wp2
      go_ret
      exact ⟨by rw [HE.out]; rfl, rfl⟩
    · have h4 : ¬ ((n : Int) ≤ 90) := by omega
      have h5 : (65 : Int) ≤ n := by omega
      go_enter Try.func21, Try.ntmps21
      go_wp2
      go_ret
      exact ⟨by rw [HE.out]; rfl, rfl⟩

end Go.Proofs.Ytmkgjfinmojjnaa
