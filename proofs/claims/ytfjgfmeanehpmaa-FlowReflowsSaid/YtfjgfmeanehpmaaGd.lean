/- The walks of Used, and of the document's. -/
import Derived.Test.YtfjgfmeanehpmaaGc
namespace Go.Proofs.Ytfjgfmeanehpmaa
open Go.RowKit

def usedTo (l : List CC) : Nat → Nat
  | 0 => 0
  | i + 1 => if (Ac l i).r = 0 then usedTo l i else i + 1
def usedL (l : List CC) : Nat := usedTo l l.length
theorem usedTo_le (l : List CC) : ∀ i, usedTo l i ≤ i
  | 0 => Nat.le_refl _
  | i + 1 => by
    have := usedTo_le l i
    unfold usedTo
    split <;> omega
set_option maxRecDepth 100000 in
set_option maxHeartbeats 4000000 in
theorem used_any (A : Option Addr) (l : List CC) (n c : Nat) (hn : n = l.length) (hl : n ≤ 1000000) (w : World) (h : RC w w.heap.size A l) :
    Calls Try.prog 33 #[.slice A n c] w fun e w' => e = .returned (.int .i64 (usedL l)) ∧ Below w.heap.size w w' := by
  have HR := Lib.hid h
  have HN := Lib.hid hn
  have HU : Hid (usedL l = usedTo l n) := Lib.hid (by rw [hn]; rfl)
  clear h hn
  generalize usedL l = U at *
  go_enter Try.func33, Try.ntmps33
  go_wp2
  go_loopw [3] (fun q wr => ∃ k : Nat, q = .int .i64 k ∧ k ≤ n ∧ Hid (U = usedTo l k) ∧ Hid (Below w.heap.size w wr)) (fun q _ => (intOf q).toNat)
  case atStart => exact ⟨n, rfl, Nat.le_refl _, HU, Lib.hid (Below.refl _ _)⟩
  case round =>
    obtain ⟨k, rfl, hk, HK, HB⟩ := hrel
    by_cases h0 : 0 < k
    · obtain ⟨j, hj⟩ : ∃ j, k = j + 1 := ⟨k - 1, by omega⟩
      have hd : decide (0 < k) = true := decide_eq_true h0
      have hw : IntKind.i64.wrap ((k : Int) - 1) = (j : Int) := by rw [IntKind.wrap_i64]; omega
      have hjn : (j : Int) < n := by omega
      obtain ⟨b, off, rfl, hG⟩ := HR.out.at (fun e => by have := HN.out; rw [e] at this; simp at this; omega)
      obtain ⟨G0, GA⟩ := hG _ HB.out
      have a0 := (GA j (by have := HN.out; omega)).1
      have HUS : Hid (usedTo l k = if (Ac l j).r = 0 then usedTo l j else j + 1) := Lib.hid (by rw [hj]; rfl)
      have HJ := Lib.hid hj
      clear hG GA hj
      generalize (Ac l j).r = r at *
      by_cases hr : r = 0
      · have HN2 : Hid (U = usedTo l j) := Lib.hid (by rw [HK.out, HUS.out, if_pos hr])
        have he : (r == 0) = true := by simpa using hr
        clear HK HUS hr
        go_wp2
        go_roundw
        case rel => exact ⟨j, by go_num, by have := HJ.out; omega, HN2, HB⟩
        case measure => have := HJ.out; simp [intOf]; omega
      · have HN2 : Hid (U = k) := Lib.hid (by rw [HK.out, HUS.out, if_neg hr, HJ.out])
        have he : (r == 0) = false := by simpa using hr
        clear HK HUS hr
        go_wp2
        go_ret
        exact ⟨(by rw [HN2.out]; try rfl), HB.out⟩
    · have hd : decide (0 < k) = false := decide_eq_false h0
      have HN2 : Hid (U = k) := Lib.hid (by have e : k = 0 := by omega
                                            rw [HK.out, e]; rfl)
      clear HK
      go_wp2
      go_ret
      exact ⟨(by rw [HN2.out]; try rfl), HB.out⟩
set_option maxRecDepth 100000 in
set_option maxHeartbeats 4000000 in
theorem refUsed_any (A : Option Addr) (l : List CC) (n c : Nat) (hn : n = l.length) (hl : n ≤ 1000000) (w : World) (h : RC w w.heap.size A l) :
    Calls Try.prog 29 #[.slice A n c] w fun e w' => e = .returned (.int .i64 (usedL l)) ∧ Below w.heap.size w w' := by
  have HR := Lib.hid h
  have HN := Lib.hid hn
  have HU : Hid (usedL l = usedTo l n) := Lib.hid (by rw [hn]; rfl)
  clear h hn
  generalize usedL l = U at *
  go_enter Try.func29, Try.ntmps29
  go_wp2
  go_loopw [3, 4] (fun uu q wr => ∃ k u : Nat, uu = .int .i64 u ∧ q = .int .i64 k ∧ k ≤ n ∧ u ≤ k ∧ Hid (u = usedTo l k) ∧ Hid (Below w.heap.size w wr)) (fun _ q _ => n - (intOf q).toNat)
  case atStart => exact ⟨0, 0, rfl, rfl, Nat.zero_le _, Nat.le_refl _, Lib.hid rfl, Lib.hid (Below.refl _ _)⟩
  case round =>
    obtain ⟨k, u, rfl, rfl, hk, hu, HK, HB⟩ := hrel
    by_cases hlt : k < n
    · have hki : (k : Int) < n := by omega
      obtain ⟨b, off, rfl, hG⟩ := HR.out.at (fun e => by have := HN.out; rw [e] at this; simp at this; omega)
      obtain ⟨G0, GA⟩ := hG _ HB.out
      have a0 := (GA k (by have := HN.out; omega)).1
      have HUS : Hid (usedTo l (k + 1) = if (Ac l k).r = 0 then usedTo l k else k + 1) := Lib.hid rfl
      clear hG GA
      generalize (Ac l k).r = r at *
      by_cases hr : r = 0
      · have HN2 : Hid (u = usedTo l (k + 1)) := Lib.hid (by rw [HK.out, HUS.out, if_pos hr])
        have he : (r == 0) = true := by simpa using hr
        have he' : (r != 0) = false := by rw [bne, he]; rfl
        clear HK HUS hr
        go_wp2
        go_roundw
        case rel => exact ⟨k + 1, u, rfl, by go_num, hlt, by omega, HN2, HB⟩
        case measure => simp [intOf]; omega
      · have HN2 : Hid (k + 1 = usedTo l (k + 1)) := Lib.hid (by rw [HUS.out, if_neg hr])
        have he : (r == 0) = false := by simpa using hr
        have he' : (r != 0) = true := by rw [bne, he]; rfl
        clear HK HUS hr
        go_wp2
        go_roundw
        case rel => exact ⟨k + 1, k + 1, by go_num, by go_num, hlt, Nat.le_refl _, HN2, HB⟩
        case measure => simp [intOf]; omega
    · obtain rfl : k = n := by omega
      have HN2 : Hid (U = u) := Lib.hid (by rw [HU.out, HK.out])
      clear HK HU
      go_wp2
      go_ret
      exact ⟨(by rw [HN2.out]; try rfl), HB.out⟩
end Go.Proofs.Ytfjgfmeanehpmaa
