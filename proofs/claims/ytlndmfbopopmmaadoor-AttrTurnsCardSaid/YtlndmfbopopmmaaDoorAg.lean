/- The walk of colorOf. -/
import Derived.Test.YtlndmfbopopmmaaDoorAf
import Derived.Test.YtlndmfbopopmmaaDoorQc
import Derived.Laws.BitsAllLaws
import Derived.Laws.BitsLemmas
namespace Go.Proofs.YtlndmfbopopmmaaDoor
open Go.RowKit

def foldC (xs : List Int) : Int := xs.foldl (fun n v => n * 256 + most0Z v) 0
theorem foldC_snoc (xs : List Int) (v : Int) : foldC (xs ++ [v]) = foldC xs * 256 + most0Z v := by unfold foldC; rw [List.foldl_append]; rfl
theorem ofInt_i64 (a : Nat) (ha : a < 9223372036854775808) : (BitVec.ofInt 64 (a : Int)).toNat = a := by
  rw [BitVec.ofInt_natCast, BitVec.toNat_ofNat]; exact Nat.mod_eq_of_lt (by omega)
theorem or_part (n v : Int) (h0 : 0 ≤ n) (h1 : n < 16777216) (h2 : 0 ≤ v) (h3 : v ≤ 255) : bits .or .i64 (n * 256) v = n * 256 + v := by
  obtain ⟨a, rfl⟩ : ∃ a : Nat, n = a := ⟨n.toNat, by omega⟩
  obtain ⟨b, rfl⟩ : ∃ b : Nat, v = b := ⟨v.toNat, by omega⟩
  show IntKind.i64.wrap ((BitVec.ofInt 64 ((a : Int) * 256) ||| BitVec.ofInt 64 (b : Int)).toNat : Int) = _
  rw [show (a : Int) * 256 = ((a * 256 : Nat) : Int) by simp, BitVec.toNat_or, ofInt_i64 _ (by omega), ofInt_i64 _ (by omega), IntKind.wrap_i64]
  have : a * 256 ||| b = a * 256 + b := by
    have := Nat.two_pow_add_eq_or_of_lt (i := 8) (b := b) (by omega) a
    rw [Nat.mul_comm a 256]
    exact this.symm
  rw [this]
  omega
theorem fold_bd (n p : Int) (k : Nat) (h0 : 0 ≤ n) (h1 : n < 256 ^ k) (h2 : 0 ≤ p) (h3 : p ≤ 255) : 0 ≤ n * 256 + p ∧ n * 256 + p < 256 ^ (k + 1) := ⟨by omega, by rw [Int.pow_succ]; omega⟩
/-- What parts make of a color. -/
def partsOk (xs : List Int) : Bool := xs.all fun x => decide (x ≤ 255)
def colorOfV (k0 n0 kind : Int) (xs : List Int) : Value := if partsOk xs = true then .agg #[.int .i64 kind, .int .i64 (foldC xs)] else .agg #[.int .i64 k0, .int .i64 n0]

set_option maxHeartbeats 4000000 in
theorem colorOf_any (k0 n0 kind : Int) (A : Option Addr) (xs : List Int) (m c : Nat) (hm : m = xs.length) (hm3 : m ≤ 3) (w : World) (hR : RI w w.heap.size A xs) :
    Calls Tryd.prog 38 #[.agg #[.int .i64 k0, .int .i64 n0], .int .i64 kind, .slice A m c] w fun e w' => e = .returned (colorOfV k0 n0 kind xs) ∧ Below w.heap.size w w' := by
  have HR := Lib.hid hR
  have HM := Lib.hid hm
  have hm3' : (m : Int) ≤ 3 := by omega
  clear hm hR
  go_enter Tryd.func38, Tryd.ntmps38
  go_wp2
  go_loopw [7, 12] (fun acc i wr => ∃ k : Nat, k ≤ m ∧ i = .int .i64 k ∧ acc = .int .i64 (foldC (xs.take k)) ∧ Hid (partsOk (xs.take k) = true) ∧ Hid (0 ≤ foldC (xs.take k) ∧ foldC (xs.take k) < 256 ^ k) ∧ wr = ((w.alloc (.cells #[.int .i64 k0, .int .i64 n0] 23)).alloc (.cells #[.int .i64 0, .int .i64 0] 23))) (fun _ i _ => m - (intOf i).toNat)
  case atStart => exact ⟨0, Nat.zero_le _, rfl, rfl, Lib.hid rfl, Lib.hid (by simp [foldC]), rfl⟩
  case round =>
    obtain ⟨k, hk, rfl, rfl, HK, HB, rfl⟩ := hrel
    by_cases hlt : k < m
    · have hkx : k < xs.length := by rw [← HM.out]; exact hlt
      obtain ⟨b, off, rfl, hbl, hc⟩ := HR.out (by rintro rfl; simp at hkx)
      have hck := hc k hkx
      have hki : (k : Int) < m := by omega
      have HT := Lib.hid (foldC_snoc (xs.take k) (xs[k]?.getD 0))
      have HTT := Lib.hid (take_snocI xs k hkx)
      have HALL : Hid (255 < xs[k]?.getD 0 → partsOk xs = false) := Lib.hid fun h => by
        rw [List.getElem?_eq_getElem hkx, Option.getD_some] at h
        unfold partsOk
        rw [List.all_eq_false]
        exact ⟨_, List.getElem_mem hkx, by simp; omega⟩
      clear hc hkx
      generalize xs[k]?.getD 0 = x at *
      have HN0 := Lib.hid (show 0 ≤ foldC (xs.take k) ∧ foldC (xs.take k) < 65536 from ⟨HB.out.1, by
        have := HB.out.2
        rcases (by omega : k = 0 ∨ k = 1 ∨ k = 2) with rfl | rfl | rfl <;> omega⟩)
      have HNX : Hid (foldC (xs.take (k + 1)) = foldC (xs.take k) * 256 + most0Z x) := Lib.hid (by rw [HTT.out, HT.out])
      have HPX : Hid (x ≤ 255 → partsOk (xs.take (k + 1)) = true) := Lib.hid fun h => by
        have := HK.out
        rw [HTT.out]
        unfold partsOk at this ⊢
        rw [List.all_append, this]
        simpa using h
      clear HTT HT
      generalize foldC (xs.take k) = n at *
      have hn0 := HN0.out.1
      have hn1 := HN0.out.2
      have hwr : wrap64 (n * 256) = n * 256 := IntWalk.wrap64_in _ (by omega)
      have hwr' : IntKind.i64.wrap (n * 256) = n * 256 := IntWalk.i64_in _ (by omega)
      rcases (by omega : x < 0 ∨ (0 ≤ x ∧ x ≤ 255) ∨ 255 < x) with g | ⟨g, g'⟩ | g
      · have hm0 : most0Z x = 0 := if_pos g
        have hor := or_part n 0 hn0 (by omega) (by decide) (by decide)
        have d1 : decide (x > 255) = false := decide_eq_false (by omega)
        have hbd := fold_bd n 0 k HB.out.1 HB.out.2 (by decide) (by decide)
        clear hn0 hn1
        go_wp2
        go_roundw
        case rel => exact ⟨k + 1, hlt, by go_num, (by rw [HNX.out, hm0]; first | (simp; done) | (rw [show max x 0 = 0 by omega, hor])), Lib.hid (HPX.out (by omega)), Lib.hid (by rw [HNX.out, hm0]; exact hbd), by first | rfl | trivial⟩
        case measure => simp [intOf]; omega
      · have hm0 : most0Z x = x := if_neg (by omega)
        have hor := or_part n x hn0 (by omega) g g'
        have d1 : decide (x > 255) = false := decide_eq_false (by omega)
        have hbd := fold_bd n x k HB.out.1 HB.out.2 g g'
        clear hn0 hn1
        go_wp2
        go_roundw
        case rel => exact ⟨k + 1, hlt, by go_num, (by rw [HNX.out, hm0, ← hor]; first | done | (rw [show max x 0 = x by omega])), Lib.hid (HPX.out g'), Lib.hid (by rw [HNX.out, hm0]; exact hbd), by first | rfl | trivial⟩
        case measure => simp [intOf]; omega
      · have HNO := Lib.hid (HALL.out g)
        have d1 : decide (x > 255) = true := decide_eq_true g
        clear hn0 hn1
        go_wp2
        exact bodyPost_ret (v := .agg #[.int .i64 k0, .int .i64 n0]) (by simp [results, Tryd.results38, go_sem]) rfl ⟨by unfold colorOfV; rw [HNO.out]; rfl, ((Below.refl _ _).alloc (Nat.le_refl _) _).alloc (by simp) _⟩
    · obtain rfl : k = m := by omega
      have hok := HK.out
      rw [List.take_of_length_le (Nat.le_of_eq HM.out.symm)] at hok
      have HOK := Lib.hid hok
      have HZ : Hid (foldC (xs.take k) = foldC xs) := Lib.hid (by rw [List.take_of_length_le (Nat.le_of_eq HM.out.symm)])
      clear hok
      generalize foldC (xs.take k) = z at *
      go_wp2
      exact bodyPost_ret (v := .agg #[.int .i64 kind, .int .i64 z]) (by simp [results, Tryd.results38, go_sem]) rfl ⟨by unfold colorOfV; rw [HOK.out, HZ.out]; rfl, ((Below.refl _ _).alloc (Nat.le_refl _) _).alloc (by simp) _⟩

end Go.Proofs.YtlndmfbopopmmaaDoor
