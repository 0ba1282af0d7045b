/- The walk of ref07's Same, of any two rows. -/
import Derived.Test.YtfjgfmeanehpmaaGa
import Derived.BigQuiet
namespace Go.Proofs.Ytfjgfmeanehpmaa
open Go.RowKit

theorem belN' (w : World) (n : Nat) : Below w.heap.size w (w.drewN n) := ⟨rfl, rfl, rfl, Nat.le_refl _, fun _ _ => rfl⟩
set_option maxRecDepth 100000 in
set_option maxHeartbeats 4000000 in
theorem same7C_any (A A' : Option Addr) (l l' : List CC) (n n' c c' : Nat) (hn : n = l.length) (hn' : n' = l'.length) (hl : n ≤ 1000000000) (w : World) (h : RC w w.heap.size A l) (h' : RC w w.heap.size A' l') :
    Calls Try.prog 14 #[.slice A n c, .slice A' n' c'] w fun e w' => e = .returned (.bool (sameC l l')) ∧ Below w.heap.size w w' := by
  by_cases hnn : n = n'
  · subst hnn
    have HR := Lib.hid h
    have HR' := Lib.hid h'
    have HN := Lib.hid hn
    have HN' := Lib.hid hn'
    have hg := Cell_guard
    clear h h' hn hn'
    go_enter Try.func14, Try.ntmps14
    go_wp2
    go_loopw [5] (fun i wr => ∃ k : Nat, k ≤ n ∧ i = .int .i64 k ∧ Hid (∀ j, j < k → eqC (Ac l j) (Ac l' j) = true) ∧ Hid (Below w.heap.size w wr)) (fun i _ => n - (intOf i).toNat)
    case atStart => exact ⟨0, Nat.zero_le _, rfl, Lib.hid (fun j hj => by omega), Lib.hid (Below.refl _ _)⟩
    case round =>
      obtain ⟨k, hk, rfl, HK, HB⟩ := hrel
      by_cases hlt : k < n
      · have hki : (k : Int) < n := by omega
        obtain ⟨b, off, rfl, hG⟩ := HR.out.at (fun e => by have := HN.out; rw [e] at this; simp at this; omega)
        obtain ⟨b', off', rfl, hG'⟩ := HR'.out.at (fun e => by have := HN'.out; rw [e] at this; simp at this; omega)
        obtain ⟨G0, GA⟩ := hG _ HB.out
        obtain ⟨L0, LA⟩ := hG' _ HB.out
        obtain ⟨a0, a1, a2, a3, a4, a5, a6, a7⟩ := GA k (by have := HN.out; omega)
        obtain ⟨k0, k1, k2, k3, k4, k5, k6, k7⟩ := LA k (by have := HN'.out; omega)
        have hB' := fun nq => Lib.hid (bel0 HB.out (belN' wr nq))
        clear hG hG' GA LA
        cases hq : eqC (Ac l k) (Ac l' k) with
        | true =>
          have hq1 := fun W => eqCell W (Ac l k) (Ac l' k)
          rw [hq] at hq1
          have HQ := Lib.hid hq
          have HKN : Hid (∀ j, j < k + 1 → eqC (Ac l j) (Ac l' j) = true) := Lib.hid fun j hj => by
            rcases (by omega : j < k ∨ j = k) with h | rfl
            · exact HK.out j h
            · exact HQ.out
          clear hq HK HQ
          generalize Ac l k = x at *
          generalize Ac l' k = y at *
          go_wp2
          go_quiet (fail)
          go_wp2
          go_roundw
          case rel => exact ⟨k + 1, hlt, by go_num, HKN, hB' nq⟩
          case measure => simp [intOf]; omega
        | false =>
          have hq1 := fun W => eqCell W (Ac l k) (Ac l' k)
          rw [hq] at hq1
          have HS := Lib.hid (sameC_no k (by have := HN.out; omega) hq)
          clear hq HK
          generalize Ac l k = x at *
          generalize Ac l' k = y at *
          go_wp2
          go_quiet (fail)
          go_wp2
          go_ret
          exact ⟨(by rw [HS.out]; try rfl), (hB' nq).out⟩
      · obtain rfl : k = n := by omega
        have HS := Lib.hid (sameC_yes (l := l) (l' := l') (by have := HN.out; have := HN'.out; omega) (fun j hj => HK.out j (by have := HN.out; omega)))
        clear HK
        go_wp2
        go_ret
        exact ⟨(by rw [HS.out]; try rfl), HB.out⟩
  · have HS := Lib.hid (sameC_len (by omega : l.length ≠ l'.length))
    have hd : (n : Int) ≠ n' := by omega
    clear h h' hn hn'
    generalize sameC l l' = q at *
    go_enter Try.func14, Try.ntmps14
    go_wp2
    go_ret
    exact ⟨(by rw [HS.out]; try rfl), Below.refl _ _⟩
end Go.Proofs.Ytfjgfmeanehpmaa
