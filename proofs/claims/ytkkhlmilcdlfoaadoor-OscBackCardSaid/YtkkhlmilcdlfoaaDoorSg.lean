/- strconv.Itoa's contract in this house's words; the document's Digits, of any number. -/
import Derived.Test.YtkkhlmilcdlfoaaDoorXs
import Derived.Test.YtkkhlmilcdlfoaaDoorXb
import Derived.Test.YtkkhlmilcdlfoaaDoorKi
import Derived.Lib.AppendIntMem
import Derived.Lib.ItoaLen
import Derived.Laws.IdiomStrings
import Derived.Laws.AppendOwn
namespace Go.Proofs.YtkkhlmilcdlfoaaDoor
open Go.RowKit

/-- Itoa's table is there. -/
def TI (w : World) : Prop := Lib.TabIs Tryd.prog w "internal/strconv.uint64pow10" .u64 Lib.pow10Tab
theorem TI.below {w w' : World} (h : TI w) (hb : Below w.heap.size w w') : TI w' := Lib.tabBelow_of_tabIs h w' hb
theorem itoa_any (n : Int) (h0 : -9223372036854775808 ≤ n) (h1 : n ≤ 9223372036854775807) (w : World) (hT : TI w) :
    Calls Tryd.prog 29 #[.int .i64 n] w fun e w' => e = .returned (.string (bsB (Lib.itoa n))) ∧ Below w.heap.size w w' :=
  (Tryd.strconv_Itoa n h0 h1 w hT).mono fun _ _ ⟨h, k, os, e⟩ => ⟨h, e ▸ Lib.below_grow _ w (Nat.le_refl _) k os⟩
theorem itoa_short (n : Int) (h0 : -9223372036854775808 ≤ n) (h1 : n ≤ 9223372036854775807) : (bsB (Lib.itoa n)).size ≤ 21 := by
  rw [bsB_size]
  exact Lib.itoa_length_le n h0 h1
theorem dec_byte (x : Nat) (h : x < 256) : (UInt8.ofNat x).toNat = x := by simp; omega
/-- What is done and what is left of a number. -/
def DigM (n m : Nat) (T : List UInt8) : Prop := (T = [] ∧ m = n) ∨ (T ≠ [] ∧ (if m = 0 then T = Lib.decDigits n else Lib.decDigits m ++ T = Lib.decDigits n))
theorem DigM.next {n m : Nat} {T : List UInt8} (h : DigM n m T) (hg : 0 < m ∨ T = []) : DigM n (m / 10) (UInt8.ofNat (48 + m % 10) :: T) := by
  refine .inr ⟨by simp, ?_⟩
  have key : Lib.decDigits m ++ T = Lib.decDigits n → (if m / 10 = 0 then UInt8.ofNat (48 + m % 10) :: T = Lib.decDigits n else Lib.decDigits (m / 10) ++ UInt8.ofNat (48 + m % 10) :: T = Lib.decDigits n) := fun e => by
    rw [Lib.decDigits] at e
    by_cases h1 : m < 10
    · rw [dif_pos h1] at e
      rw [if_pos (by omega), Nat.mod_eq_of_lt h1]
      exact e
    · rw [dif_neg h1] at e
      rw [if_neg (by omega), ← e]
      simp
  rcases h with ⟨hT, hm⟩ | ⟨hT, hm⟩
  · exact key (by rw [hT, hm, List.append_nil])
  · rcases hg with hg | hg
    · rw [if_neg (by omega)] at hm
      exact key hm
    · exact absurd hg hT

theorem DigM.len {n m : Nat} {T : List UInt8} (h : DigM n m T) (hn : n ≤ 9223372036854775807) : T.length ≤ 21 := by
  have h1 : (Lib.decDigits n).length ≤ 21 := by
    have := Lib.itoa_length_le (n : Int) (by omega) (by omega)
    rwa [Lib.itoa, if_neg (by omega), Int.toNat_natCast] at this
  rcases h with ⟨h, _⟩ | ⟨_, h⟩
  · rw [h]; simp
  · split at h
    · rw [h]; exact h1
    · rw [← h, List.length_append] at h1; omega
theorem conv_oneM (w : World) (x : UInt8) (z : Int) (hz : z = x.toNat) : (Go.convert 46 9 (.slice (some ⟨w.heap.size, 0, none⟩) 1 1)).run Tryd.prog (w.alloc (.cells #[.int .u8 z] 5)) = .ok (.string (bsB [x])) (w.alloc (.cells #[.int .u8 z] 5)) := by
  subst hz
  exact run_convert_bytes_back (P := Tryd.prog) (w.alloc (.cells #[.int .u8 x.toNat] 5)) 46 9 5 ⟨w.heap.size, 0, none⟩ 1 [x] (by kernel_rfl) (by kernel_rfl) (by kernel_rfl) (fun j hj => by
    have hj0 : j = 0 := by simpa using hj
    subst hj0
    exact news1 w _ _ 0 _ rfl)
set_option maxHeartbeats 2000000 in
theorem digitsM_any (n : Nat) (hn : n ≤ 9223372036854775807) (w : World) :
    Calls Tryd.prog 30 #[.int .i64 n] w fun e w' => e = .returned (.string (bsB (Lib.decDigits n))) ∧ Below w.heap.size w w' := by
  have HE : Hid (∀ T, DigM n 0 T → T ≠ [] → T = Lib.decDigits n) := Lib.hid fun T h hT => by
    rcases h with ⟨h, _⟩ | ⟨_, h⟩
    · exact absurd h hT
    · rwa [if_pos rfl] at h
  go_enter Tryd.func30, Tryd.ntmps30
  go_wp2
  go_loopw [0, 3] (fun nn ss wr => ∃ (m : Nat) (T : List UInt8) (S : ByteArray), m ≤ n ∧ Hid (DigM n m T) ∧ nn = .int .i64 m ∧ ss = .string S ∧ Hid (S = bsB T) ∧ Hid (Below w.heap.size w wr)) (fun nn ss _ => (intOf nn).toNat * 2 + (match ss with | .string S => if S.size = 0 then 1 else 0 | _ => 0))
  case atStart => exact ⟨n, [], _, Nat.le_refl _, Lib.hid (.inl ⟨rfl, rfl⟩), rfl, rfl, Lib.hid rfl, Lib.hid (Below.refl _ _)⟩
  case round =>
    obtain ⟨m, T, S, hm, HD, rfl, rfl, HS, HB⟩ := hrel
    by_cases hm0 : 0 < m
    · have hmi : (0 : Int) < m := by omega
      have hd0 : decide ((m : Int) > 0) = true := decide_eq_true hmi
      have HG := (Or.inl hm0 : 0 < m ∨ T = [])
      have hcv := conv_oneM wr (UInt8.ofNat (48 + m % 10)) (48 + (m : Int) % 10) (by rw [dec_byte _ (by omega)]; omega)
      have HN : Hid (DigM n (m / 10) ([UInt8.ofNat (48 + m % 10)] ++ T)) := Lib.hid (HD.out.next HG)
      have HS2 : Hid (bsB [UInt8.ofNat (48 + m % 10)] ++ S = bsB ([UInt8.ofNat (48 + m % 10)] ++ T)) := Lib.hid (by rw [HS.out, bsB_app])
      have HSZ : Hid ((bsB [UInt8.ofNat (48 + m % 10)] ++ S).size ≠ 0) := Lib.hid (by rw [HS2.out, bsB_size]; simp)
      have HB2 : Hid (Below w.heap.size w (wr.alloc (.cells #[.int .u8 (48 + (m : Int) % 10)] 5))) := Lib.hid (belA HB.out _)
      have hYS : (bsB [UInt8.ofNat (48 + m % 10)]).size ≤ 1 := by rw [bsB_size]; simp
      have hSS : S.size ≤ 21 := by rw [HS.out, bsB_size]; exact HD.out.len hn
      generalize bsB [UInt8.ofNat (48 + m % 10)] = Y at *
      clear HS HD HB
      go_wp2
      go_roundw
      case rel => exact ⟨m / 10, _, _, by omega, HN, by go_num, rfl, HS2, HB2⟩
      case measure =>
        simp only [intOf]
        rw [if_neg HSZ.out]
        split <;> omega
    · obtain rfl : m = 0 := by omega
      by_cases hT : T = []
      · have hse : S.toList.isEmpty = true := by rw [Lib.toList_data, HS.out, hT]; rfl
        have HG := (Or.inr hT : 0 < 0 ∨ T = [])
        have hcv := conv_oneM wr 48 48 rfl
        have HN : Hid (DigM n (0 / 10) ([UInt8.ofNat (48 + 0 % 10)] ++ T)) := Lib.hid (HD.out.next HG)
        have HS2 : Hid (bsB [48] ++ S = bsB ([UInt8.ofNat (48 + 0 % 10)] ++ T)) := Lib.hid (by rw [HS.out, bsB_app]; rfl)
        have HSZ : Hid ((bsB [48] ++ S).size ≠ 0) := Lib.hid (by rw [HS2.out, bsB_size]; simp)
        have HB2 : Hid (Below w.heap.size w (wr.alloc (.cells #[.int .u8 48] 5))) := Lib.hid (belA HB.out _)
        have hYS : (bsB [48]).size ≤ 1 := by rw [bsB_size]; simp
        have hSS : S.size ≤ 0 := by rw [HS.out, bsB_size, hT]; simp
        generalize bsB [48] = Y at *
        clear HS HD HB
        go_wp2
        go_roundw
        case rel => exact ⟨0 / 10, _, _, by omega, HN, rfl, rfl, HS2, HB2⟩
        case measure =>
          simp only [intOf]
          rw [if_neg HSZ.out, if_pos (by omega)]
          omega
      · have hse : S.toList.isEmpty = false := by
          rw [Lib.toList_data, HS.out]
          cases T with
          | nil => exact absurd rfl hT
          | cons a b => rfl
        have HF : Hid (S = bsB (Lib.decDigits n)) := Lib.hid (by rw [HS.out, HE.out T HD.out hT])
        clear HS HD
        go_wp2
        go_ret
        exact ⟨by rw [HF.out]; rfl, HB.out⟩


theorem itoa_natM (u : Nat) : Lib.itoa (u : Int) = Lib.decDigits u := by
  rw [Lib.itoa, if_neg (by omega), Int.toNat_natCast]
/-- A number below 0, digit by digit. -/
theorem neg_text (m : Nat) : Lib.decDigits m = (if m ≥ 10 then Lib.decDigits (m / 10) else []) ++ Lib.decDigits (m % 10) := by
  rw [Lib.decDigits]
  by_cases h : m < 10
  · rw [dif_pos h, if_neg (by omega), List.nil_append, Nat.mod_eq_of_lt h, Lib.decDigits, dif_pos h]
  · rw [dif_neg h, if_pos (by omega), Lib.decDigits.eq_def (m % 10), dif_pos (by omega)]
end Go.Proofs.YtkkhlmilcdlfoaaDoor
