/- The walks of the document's Digits, of any number, and of its Name. -/
import Derived.Test.YtolhdmlphmnpbaaDoorIe
import Derived.Laws.AppendOwn
namespace Go.Proofs.YtolhdmlphmnpbaaDoor
open Go.RowKit

theorem news1 (W : World) (v : Value) (t : TypeId) : ∀ (j : Nat) (u : Value), [v][j]? = some u → (W.alloc (.cells #[v] t)).cell? ((⟨W.heap.size, 0, none⟩ : Addr).add j) = some u := by
  intro j u hj
  match j, hj with
  | 0, hj =>
    simp at hj
    subst hj
    exact (cell_of_row _ _ _ _ _ _ (heap_alloc_new W _)).trans rfl
theorem dec_byte (x : Nat) (h : x < 256) : (UInt8.ofNat x).toNat = x := by simp; omega
/-- What is done and what is left of a number. -/
def DigM (n m : Nat) (T : List UInt8) : Prop := (T = [] ∧ m = n) ∨ (T ≠ [] ∧ (if m = 0 then T = Lib.decDigits n else Lib.decDigits m ++ T = Lib.decDigits n))
theorem DigM.next {n m : Nat} {T : List UInt8} (h : DigM n m T) (hg : 0 < m ∨ T = []) : DigM n (m / 10) (UInt8.ofNat (48 + m % 10) :: T) := by
  refine .inr ⟨by simp, ?_⟩
  have key : Lib.decDigits m ++ T = Lib.decDigits n → (if m / 10 = 0 then UInt8.ofNat (48 + m % 10) :: T = Lib.decDigits n else Lib.decDigits (m / 10) ++ UInt8.ofNat (48 + m % 10) :: T = Lib.decDigits n) := fun e => by
    rw [Lib.decDigits] at e
    by_cases h1 : m < 10
    · rw [dif_pos h1] at e
      rw [if_pos (by omega), Nat.mod_eq_of_lt h1]
      exact e
    · rw [dif_neg h1] at e
      rw [if_neg (by omega), ← e]
      simp
  rcases h with ⟨hT, hm⟩ | ⟨hT, hm⟩
  · exact key (by rw [hT, hm, List.append_nil])
  · rcases hg with hg | hg
    · rw [if_neg (by omega)] at hm
      exact key hm
    · exact absurd hg hT

theorem DigM.len {n m : Nat} {T : List UInt8} (h : DigM n m T) (hn : n ≤ 9223372036854775807) : T.length ≤ 21 := by
  have h1 : (Lib.decDigits n).length ≤ 21 := by
    have := Lib.itoa_length_le (n : Int) (by omega) (by omega)
    rwa [Lib.itoa, if_neg (by omega), Int.toNat_natCast] at this
  rcases h with ⟨h, _⟩ | ⟨_, h⟩
  · rw [h]; simp
  · split at h
    · rw [h]; exact h1
    · rw [← h, List.length_append] at h1; omega
theorem conv_oneM (w : World) (x : UInt8) (z : Int) (hz : z = x.toNat) : (Go.convert 55 9 (.slice (some ⟨w.heap.size, 0, none⟩) 1 1)).run Tryd.prog (w.alloc (.cells #[.int .u8 z] 5)) = .ok (.string (bsB [x])) (w.alloc (.cells #[.int .u8 z] 5)) := by
  subst hz
  exact run_convert_bytes_back (P := Tryd.prog) (w.alloc (.cells #[.int .u8 x.toNat] 5)) 55 9 5 ⟨w.heap.size, 0, none⟩ 1 [x] (by kernel_rfl) (by kernel_rfl) (by kernel_rfl) (fun j hj => by
    have hj0 : j = 0 := by simpa using hj
    subst hj0
    exact news1 w _ _ 0 _ rfl)
set_option maxHeartbeats 2000000 in
theorem digitsM_any (n : Nat) (hn : n ≤ 9223372036854775807) (w : World) :
    Calls Tryd.prog 22 #[.int .i64 n] w fun e w' => e = .returned (.string (bsB (Lib.decDigits n))) ∧ Below w.heap.size w w' := by
  have HE : Hid (∀ T, DigM n 0 T → T ≠ [] → T = Lib.decDigits n) := Lib.hid fun T h hT => by
    rcases h with ⟨h, _⟩ | ⟨_, h⟩
    · exact absurd h hT
    · rwa [if_pos rfl] at h
  go_enter Tryd.func22, Tryd.ntmps22
  go_wp2
  go_loopw [0, 3] (fun nn ss wr => ∃ (m : Nat) (T : List UInt8) (S : ByteArray), m ≤ n ∧ Hid (DigM n m T) ∧ nn = .int .i64 m ∧ ss = .string S ∧ Hid (S = bsB T) ∧ Hid (Below w.heap.size w wr)) (fun nn ss _ => (intOf nn).toNat * 2 + (match ss with | .string S => if S.size = 0 then 1 else 0 | _ => 0))
  case atStart => exact ⟨n, [], _, Nat.le_refl _, Lib.hid (.inl ⟨rfl, rfl⟩), rfl, rfl, Lib.hid rfl, Lib.hid (Below.refl _ _)⟩
  case round =>
    obtain ⟨m, T, S, hm, HD, rfl, rfl, HS, HB⟩ := hrel
    by_cases hm0 : 0 < m
    · have hmi : (0 : Int) < m := by omega
      have hd0 : decide ((m : Int) > 0) = true := decide_eq_true hmi
      have HG := (Or.inl hm0 : 0 < m ∨ T = [])
      have hcv := conv_oneM wr (UInt8.ofNat (48 + m % 10)) (48 + (m : Int) % 10) (by rw [dec_byte _ (by omega)]; omega)
      have HN : Hid (DigM n (m / 10) ([UInt8.ofNat (48 + m % 10)] ++ T)) := Lib.hid (HD.out.next HG)
      have HS2 : Hid (bsB [UInt8.ofNat (48 + m % 10)] ++ S = bsB ([UInt8.ofNat (48 + m % 10)] ++ T)) := Lib.hid (by rw [HS.out, bsB_app])
      have HSZ : Hid ((bsB [UInt8.ofNat (48 + m % 10)] ++ S).size ≠ 0) := Lib.hid (by rw [HS2.out, bsB_size]; simp)
      have HB2 : Hid (Below w.heap.size w (wr.alloc (.cells #[.int .u8 (48 + (m : Int) % 10)] 5))) := Lib.hid (belA HB.out _)
      have hYS : (bsB [UInt8.ofNat (48 + m % 10)]).size ≤ 1 := by rw [bsB_size]; simp
      have hSS : S.size ≤ 21 := by rw [HS.out, bsB_size]; exact HD.out.len hn
      generalize bsB [UInt8.ofNat (48 + m % 10)] = Y at *
      clear HS HD HB
      go_wp2
      go_roundw
      case rel => exact ⟨m / 10, _, _, by omega, HN, by go_num, rfl, HS2, HB2⟩
      case measure =>
        simp only [intOf]
        rw [if_neg HSZ.out]
        split <;> omega
    · obtain rfl : m = 0 := by omega
      by_cases hT : T = []
      · have hse : S.toList.isEmpty = true := by rw [Lib.toList_data, HS.out, hT]; rfl
        have HG := (Or.inr hT : 0 < 0 ∨ T = [])
        have hcv := conv_oneM wr 48 48 rfl
        have HN : Hid (DigM n (0 / 10) ([UInt8.ofNat (48 + 0 % 10)] ++ T)) := Lib.hid (HD.out.next HG)
        have HS2 : Hid (bsB [48] ++ S = bsB ([UInt8.ofNat (48 + 0 % 10)] ++ T)) := Lib.hid (by rw [HS.out, bsB_app]; rfl)
        have HSZ : Hid ((bsB [48] ++ S).size ≠ 0) := Lib.hid (by rw [HS2.out, bsB_size]; simp)
        have HB2 : Hid (Below w.heap.size w (wr.alloc (.cells #[.int .u8 48] 5))) := Lib.hid (belA HB.out _)
        have hYS : (bsB [48]).size ≤ 1 := by rw [bsB_size]; simp
        have hSS : S.size ≤ 0 := by rw [HS.out, bsB_size, hT]; simp
        generalize bsB [48] = Y at *
        clear HS HD HB
        go_wp2
        go_roundw
        case rel => exact ⟨0 / 10, _, _, by omega, HN, rfl, rfl, HS2, HB2⟩
        case measure =>
          simp only [intOf]
          rw [if_neg HSZ.out, if_pos (by omega)]
          omega
      · have hse : S.toList.isEmpty = false := by
          rw [Lib.toList_data, HS.out]
          cases T with
          | nil => exact absurd rfl hT
          | cons a b => rfl
        have HF : Hid (S = bsB (Lib.decDigits n)) := Lib.hid (by rw [HS.out, HE.out T HD.out hT])
        clear HS HD
        go_wp2
        go_ret
        exact ⟨by rw [HF.out]; rfl, HB.out⟩


theorem itoa_natM (u : Nat) : Lib.itoa (u : Int) = Lib.decDigits u := by
  rw [Lib.itoa, if_neg (by omega), Int.toNat_natCast]
/-- A number below 0, digit by digit. -/
theorem neg_text (m : Nat) : Lib.decDigits m = (if m ≥ 10 then Lib.decDigits (m / 10) else []) ++ Lib.decDigits (m % 10) := by
  rw [Lib.decDigits]
  by_cases h : m < 10
  · rw [dif_pos h, if_neg (by omega), List.nil_append, Nat.mod_eq_of_lt h, Lib.decDigits, dif_pos h]
  · rw [dif_neg h, if_pos (by omega), Lib.decDigits.eq_def (m % 10), dif_pos (by omega)]
set_option maxRecDepth 100000 in
set_option maxHeartbeats 4000000 in
theorem name_any (p : Bool) (n : Int) (h0 : -9223372036854775808 ≤ n) (h1 : n ≤ 9223372036854775807) (w : World) :
    Calls Tryd.prog 12 #[.bool p, .int .i64 n] w fun e w' => e = .returned (.string (bsB (textM p n))) ∧ Below w.heap.size w w' := by
  by_cases hn : 0 ≤ n
  · obtain ⟨m, rfl⟩ := Int.eq_ofNat_of_zero_le hn
    have HC := Lib.hid (fun W => digitsM_any m (by omega) W)
    have hs := itoa_short (m : Int) h0 h1
    rw [itoa_natM] at hs
    have HS : Hid ((⟨#[63]⟩ : ByteArray) ++ bsB (Lib.decDigits m) = bsB (textM true (m : Int))) := Lib.hid (by
      rw [textM, itoa_natM]
      exact bsB_app [63] _)
    have HS2 : Hid ((⟨#[]⟩ : ByteArray) ++ bsB (Lib.decDigits m) = bsB (textM false (m : Int))) := Lib.hid (by
      rw [textM, itoa_natM]
      exact bsB_app [] _)
    have hd : decide ((m : Int) < 0) = false := decide_eq_false (by omega)
    clear hn
    generalize bsB (Lib.decDigits m) = s at *
    cases p with
    | true =>
      go_enter Tryd.func12, Tryd.ntmps12
      go_wp2_with (go_at_call 22; (with_reducible refine (HC.out _).mono ?_); rintro e w1 ⟨rfl, hb⟩; have HB1 := Lib.hid hb; clear hb)
      go_ret
      exact ⟨by rw [← HS.out]; rfl, HB1.out⟩
    | false =>
      go_enter Tryd.func12, Tryd.ntmps12
      go_wp2_with (go_at_call 22; (with_reducible refine (HC.out _).mono ?_); rintro e w1 ⟨rfl, hb⟩; have HB1 := Lib.hid hb; clear hb)
      go_ret
      exact ⟨by rw [← HS2.out]; rfl, HB1.out⟩
  · obtain ⟨m, rfl⟩ : ∃ m : Nat, n = -(m : Int) := ⟨n.natAbs, by omega⟩
    have hm : 0 < m := by omega
    have hd : decide (-(m : Int) < 0) = true := decide_eq_true (by omega)
    have HT : Hid (Lib.itoa (-(m : Int)) = 45 :: ((if m ≥ 10 then Lib.decDigits (m / 10) else []) ++ Lib.decDigits (m % 10))) := Lib.hid (by
      rw [Lib.itoa, if_pos (by omega), ← neg_text, Int.natAbs_neg, Int.natAbs_natCast])
    have HC : Hid (∀ W, Calls Tryd.prog 22 #[.int .i64 ((m : Int) / 10)] W fun e w' => e = .returned (.string (bsB (Lib.decDigits (m / 10)))) ∧ Below W.heap.size W w') := Lib.hid (fun W => digitsM_any (m / 10) (by omega) W)
    have HD : Hid (∀ W, Calls Tryd.prog 22 #[.int .i64 ((m : Int) % 10)] W fun e w' => e = .returned (.string (bsB (Lib.decDigits (m % 10)))) ∧ Below W.heap.size W w') := Lib.hid (fun W => digitsM_any (m % 10) (by omega) W)
    have hs1 := itoa_short ((m / 10 : Nat) : Int) (by omega) (by omega)
    rw [itoa_natM] at hs1
    have hs2 := itoa_short ((m % 10 : Nat) : Int) (by omega) (by omega)
    rw [itoa_natM] at hs2
    clear hn
    by_cases h10 : m ≥ 10
    · have hd2 : decide (-(m : Int) ≤ -10) = true := decide_eq_true (by omega)
      rw [if_pos h10] at HT
      cases p with
      | true =>
        have HS : Hid ((⟨#[63]⟩ : ByteArray) ++ (⟨#[45]⟩ : ByteArray) ++ bsB (Lib.decDigits (m / 10)) ++ bsB (Lib.decDigits (m % 10)) = bsB (textM true (-(m : Int)))) := Lib.hid (by
          rw [textM, HT.out]
          apply ByteArray.ext
          simp [bsB])
        clear HT
        generalize bsB (Lib.decDigits (m / 10)) = s1 at *
        generalize bsB (Lib.decDigits (m % 10)) = s2 at *
        go_enter Tryd.func12, Tryd.ntmps12
        go_wp2_with (first
          | (go_at_call 22; (with_reducible refine (HC.out _).mono ?_); rintro e w1 ⟨rfl, hb⟩; have HB1 := Lib.hid hb; clear hb)
          | (go_at_call 22; (with_reducible refine (HD.out _).mono ?_); rintro e w2 ⟨rfl, hb⟩; have HB2 := Lib.hid (bel0 HB1.out hb); clear hb))
        go_ret
        exact ⟨by rw [← HS.out]; rfl, HB2.out⟩
      | false =>
        have HS : Hid ((⟨#[]⟩ : ByteArray) ++ (⟨#[45]⟩ : ByteArray) ++ bsB (Lib.decDigits (m / 10)) ++ bsB (Lib.decDigits (m % 10)) = bsB (textM false (-(m : Int)))) := Lib.hid (by
          rw [textM, HT.out]
          apply ByteArray.ext
          simp [bsB])
        clear HT
        generalize bsB (Lib.decDigits (m / 10)) = s1 at *
        generalize bsB (Lib.decDigits (m % 10)) = s2 at *
        go_enter Tryd.func12, Tryd.ntmps12
        go_wp2_with (first
          | (go_at_call 22; (with_reducible refine (HC.out _).mono ?_); rintro e w1 ⟨rfl, hb⟩; have HB1 := Lib.hid hb; clear hb)
          | (go_at_call 22; (with_reducible refine (HD.out _).mono ?_); rintro e w2 ⟨rfl, hb⟩; have HB2 := Lib.hid (bel0 HB1.out hb); clear hb))
        go_ret
        exact ⟨by rw [← HS.out]; rfl, HB2.out⟩
    · have hd2 : decide (-(m : Int) ≤ -10) = false := decide_eq_false (by omega)
      rw [if_neg h10] at HT
      cases p with
      | true =>
        have HS : Hid ((⟨#[63]⟩ : ByteArray) ++ (⟨#[45]⟩ : ByteArray) ++ (⟨#[]⟩ : ByteArray) ++ bsB (Lib.decDigits (m % 10)) = bsB (textM true (-(m : Int)))) := Lib.hid (by
          rw [textM, HT.out]
          apply ByteArray.ext
          simp [bsB])
        clear HT hs1 HC
        generalize bsB (Lib.decDigits (m % 10)) = s2 at *
        go_enter Tryd.func12, Tryd.ntmps12
        go_wp2_with (go_at_call 22; (with_reducible refine (HD.out _).mono ?_); rintro e w2 ⟨rfl, hb⟩; have HB2 := Lib.hid hb; clear hb)
        go_ret
        exact ⟨by rw [← HS.out]; rfl, HB2.out⟩
      | false =>
        have HS : Hid ((⟨#[]⟩ : ByteArray) ++ (⟨#[45]⟩ : ByteArray) ++ (⟨#[]⟩ : ByteArray) ++ bsB (Lib.decDigits (m % 10)) = bsB (textM false (-(m : Int)))) := Lib.hid (by
          rw [textM, HT.out]
          apply ByteArray.ext
          simp [bsB])
        clear HT hs1 HC
        generalize bsB (Lib.decDigits (m % 10)) = s2 at *
        go_enter Tryd.func12, Tryd.ntmps12
        go_wp2_with (go_at_call 22; (with_reducible refine (HD.out _).mono ?_); rintro e w2 ⟨rfl, hb⟩; have HB2 := Lib.hid hb; clear hb)
        go_ret
        exact ⟨by rw [← HS.out]; rfl, HB2.out⟩
end Go.Proofs.YtolhdmlphmnpbaaDoor
