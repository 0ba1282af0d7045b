/- The law FoldFinds. -/
import Derived.Test.YtnnmliblnmijdaaD5
namespace Go.Proofs.Ytnnmliblnmijdaa
open Go.RowKit

set_option maxRecDepth 100000 in
set_option maxHeartbeats 8000000 in
theorem foldFinds_law (A : Option Addr) (L : List T3) (n c : Nat) (hn : n = L.length) (hin : ∀ x ∈ L, -9223372036854775808 ≤ x.1) (row : Int) (w : World) (h : RK encI 3 w A L) :
    Calls Try.prog 4 #[.slice A n c, .int .i64 row] w fun e w' => e = .returned (.bool true) ∧ Below w.heap.size w w' := by
  have HAW := Lib.hid awake_any
  by_cases hl : n ≤ 200
  · have hli : ¬ (200 : Int) < n := by omega
    obtain ⟨r, hr, hlo, hhi⟩ := first_at row L
    rw [← hn] at hr hhi
    have HR := Lib.hid h
    have HN := Lib.hid hn
    have HIN := Lib.hid hin
    have HF := Lib.hid (fun W h => find_any A L n c hn (by omega) hin row r hr hlo hhi W h)
    have HLO := Lib.hid hlo
    have HHI := Lib.hid hhi
    obtain ⟨z, hz⟩ : ∃ z : Int, z = (if r < n then (r : Int) else 0) := ⟨_, rfl⟩
    obtain ⟨f, hf⟩ : ∃ f, f = decide (r < n) := ⟨_, rfl⟩
    rw [← hz, ← hf] at HF
    have HZ := Lib.hid hz
    have HFF := Lib.hid hf
    clear h hn hlo hhi hz hf hin
    go_enter Try.func4, Try.ntmps4
    go_wp2_with (first
      | (go_at_call 8; (with_reducible refine (HAW.out w).mono ?_); rintro e w1 ⟨rfl, hb⟩; have HR1 := Lib.hid (HR.out.past hb); have HB1 := Lib.hid hb; clear hb HR)
      | (go_at_call 16; (with_reducible refine (HF.out w1 HR1.out).mono ?_); rintro e w2 ⟨rfl, hb⟩; have HR2 := Lib.hid (HR1.out.past hb); have HB2 := Lib.hid (bel0 HB1.out hb); clear hb HR1 HB1 HF))
    go_loopw [7, 8, 9] (fun q _ _ wr => ∃ k : Nat, q = .int .i64 k ∧ k ≤ r ∧ Hid (Below w2.heap.size w2 wr)) (fun q _ _ _ => n - (intOf q).toNat)
    case atStart => exact ⟨0, rfl, Nat.zero_le _, Lib.hid (Below.refl _ _)⟩
    case round =>
      obtain ⟨k, rfl, hk, HB⟩ := hrel
      by_cases hlt : k < n
      · have hki : (k : Int) < n := by omega
        obtain ⟨b0, off, rfl, hG⟩ := HR2.out.it (fun e => by have := HN.out; rw [e] at this; simp at this; omega)
        obtain ⟨G0, GA⟩ := hG _ HB.out
        obtain ⟨a0, a1, a2⟩ := GA k (by have := HN.out; omega)
        have HI : Hid (isP (Nth L k) row → k = r ∧ r < n) := Lib.hid fun hp => by
          by_cases e : k = r
          · exact ⟨e, e ▸ hlt⟩
          · exact absurd hp (HLO.out k (by omega))
        have HJ : Hid (¬ isP (Nth L k) row → k < r) := Lib.hid fun hp => by
          by_cases e : k = r
          · subst e
            exact absurd (HHI.out hlt) hp
          · omega
        have HX := Lib.hid (HIN.out _ (nth_mem (L := L) (i := k) (by have := HN.out; omega)))
        have HBW := Lib.hid (belA HB.out (.cells #[.int .i64 (Nth L k).1, .int .u64 (Nth L k).2.1, .int .i64 (Nth L k).2.2] 40))
        have HBL := Lib.hid (bel0 HB2.out HBW.out)
        clear hG GA HLO HHI HIN
        generalize Nth L k = x at *
        obtain ⟨a, b, c'⟩ := x
        simp only at a0 a1 a2 HX HBW HBL
        have HD : Hid (isP (a, b, c') row ↔ ((b = 0 ∧ a = row) ∨ (b ≠ 0 ∧ (a ≤ 1099511627776 ∧ 0 < c' ∧ c' ≤ 1099511627776) ∧ a ≤ row ∧ row < a + c'))) := Lib.hid Iff.rfl
        by_cases hb : b = 0
        · have hb1 : (b == 0) = true := by simpa using hb
          have hb2 : (b != 0) = false := by simpa using hb
          by_cases har : a = row
          · have hab : (a == row) = true := by simpa using har
            obtain ⟨e1, e2⟩ := HI.out (HD.out.2 (.inl ⟨hb, har⟩))
            have hf1 : f = true := by rw [HFF.out]; exact decide_eq_true e2
            have hz1 : z = (k : Int) := by rw [HZ.out, if_pos e2, e1]
            have HBN := HBL
            clear hb har e1 e2 HI HJ
            subst hf1; subst hz1
            go_wp2
            go_ret
            exact ⟨rfl, HBN.out⟩
          · have hab : (a == row) = false := by simpa using har
            have HKR := Lib.hid (HJ.out fun hp => by rcases HD.out.1 hp with h | h; exact har h.2; exact h.1 hb)
            have HBN := HBW
            clear hb har HI HJ
            go_wp2
            go_roundw
            case rel => exact ⟨k + 1, by go_num, by have := HKR.out; omega, HBN⟩
            case measure => simp [intOf]; omega
        · have hb1 : (b == 0) = false := by simpa using hb
          have hb2 : (b != 0) = true := by simpa using hb
          by_cases h1 : a ≤ 1099511627776
          · by_cases h2 : 0 < c'
            · by_cases h3 : c' ≤ 1099511627776
              · have hw : IntKind.i64.wrap (a + c') = a + c' := IntWalk.i64_in _ (by have := HX.out; omega)
                by_cases h4 : a ≤ row
                · by_cases h5 : row < a + c'
                  · obtain ⟨e1, e2⟩ := HI.out (HD.out.2 (.inr ⟨hb, ⟨h1, h2, h3⟩, h4, h5⟩))
                    have hf1 : f = true := by rw [HFF.out]; exact decide_eq_true e2
                    have hz1 : z = (k : Int) := by rw [HZ.out, if_pos e2, e1]
                    have HBN := HBL
                    clear hb e1 e2 HI HJ
                    subst hf1; subst hz1
                    go_wp2
                    go_ret
                    exact ⟨rfl, HBN.out⟩
                  · have HKR := Lib.hid (HJ.out fun hp => by rcases HD.out.1 hp with h | h; exact hb h.1; exact h5 h.2.2.2)
                    have HBN := HBW
                    clear hb HI HJ
                    go_wp2
                    go_roundw
                    case rel => exact ⟨k + 1, by go_num, by have := HKR.out; omega, HBN⟩
                    case measure => simp [intOf]; omega
                · have HKR := Lib.hid (HJ.out fun hp => by rcases HD.out.1 hp with h | h; exact hb h.1; exact h4 h.2.2.1)
                  have HBN := HBW
                  clear hb HI HJ
                  go_wp2
                  go_roundw
                  case rel => exact ⟨k + 1, by go_num, by have := HKR.out; omega, HBN⟩
                  case measure => simp [intOf]; omega
              · have HKR := Lib.hid (HJ.out fun hp => by rcases HD.out.1 hp with h | h; exact hb h.1; exact h3 h.2.1.2.2)
                have HBN := HBW
                clear hb HI HJ
                go_wp2
                go_roundw
                case rel => exact ⟨k + 1, by go_num, by have := HKR.out; omega, HBN⟩
                case measure => simp [intOf]; omega
            · have HKR := Lib.hid (HJ.out fun hp => by rcases HD.out.1 hp with h | h; exact hb h.1; exact h2 h.2.1.2.1)
              have HBN := HBW
              clear hb HI HJ
              go_wp2
              go_roundw
              case rel => exact ⟨k + 1, by go_num, by have := HKR.out; omega, HBN⟩
              case measure => simp [intOf]; omega
          · have HKR := Lib.hid (HJ.out fun hp => by rcases HD.out.1 hp with h | h; exact hb h.1; exact h1 h.2.1.1)
            have HBN := HBW
            clear hb HI HJ
            go_wp2
            go_roundw
            case rel => exact ⟨k + 1, by go_num, by have := HKR.out; omega, HBN⟩
            case measure => simp [intOf]; omega
      · obtain rfl : k = n := by omega
        obtain rfl : r = k := by omega
        have hf1 : f = false := by rw [HFF.out]; exact decide_eq_false (by omega)
        have hz1 : z = 0 := by rw [HZ.out, if_neg (by omega)]
        subst hf1; subst hz1
        have HBL := Lib.hid (bel0 HB2.out HB.out)
        clear HLO HHI HFF HZ
        go_wp2
        go_ret
        exact ⟨rfl, HBL.out⟩
  · have hli : (200 : Int) < n := by omega
    clear h hn hin
    go_enter Try.func4, Try.ntmps4
    go_wp2_with (go_at_call 8; (with_reducible refine (HAW.out w).mono ?_); rintro e w1 ⟨rfl, hb⟩; have HB1 := Lib.hid hb; clear hb)
    go_ret
    exact ⟨rfl, HB1.out⟩

end Go.Proofs.Ytnnmliblnmijdaa
