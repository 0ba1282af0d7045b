/- The document's Same of rows; Fits; the laws FlowSplits, FlowBack. -/
import Derived.Test.YtfjgfmeanehpmaaHp
import Derived.Test.YtfjgfmeanehpmaaHm
import Derived.StillTailTactics
namespace Go.Proofs.Ytfjgfmeanehpmaa
open Go.RowKit

set_option maxHeartbeats 2000000 in
theorem fits_any (z : Int) (w : World) : Calls Try.prog 18 #[.int .i64 z] w fun e w' => e = .returned (.bool (decide (2 ≤ z ∧ z ≤ 1000))) ∧ w = w' := by
  by_cases h1 : 2 ≤ z
  · by_cases h2 : z ≤ 1000
    · rw [decide_eq_true ⟨h1, h2⟩]
      have d1 : decide (2 ≤ z) = true := decide_eq_true h1
      have d2 : decide (z ≤ 1000) = true := decide_eq_true h2
      go_enter Try.func18, Try.ntmps18
      go_wp2
      go_ret
      exact ⟨rfl, rfl⟩
    · rw [decide_eq_false (fun h => h2 h.2)]
      have d1 : decide (2 ≤ z) = true := decide_eq_true h1
      have d2 : decide (z ≤ 1000) = false := decide_eq_false h2
      go_enter Try.func18, Try.ntmps18
      go_wp2
      go_ret
      exact ⟨rfl, rfl⟩
  · rw [decide_eq_false (fun h => h1 h.1)]
    have d1 : decide (2 ≤ z) = false := decide_eq_false h1
    go_enter Try.func18, Try.ntmps18
    go_wp2
    go_ret
    exact ⟨rfl, rfl⟩
set_option maxRecDepth 100000 in
set_option maxHeartbeats 8000000 in
theorem same8_any (A A' : Option Addr) (L : List Rw) (n c c' : Nat) (hn : n = L.length) (hl : n ≤ 1000000000) (hr : ∀ i, i < n → (Ar L i).c.length ≤ 1000000) (w : World) (h : RR w A L) (h' : RR w A' L) :
    Calls Try.prog 19 #[.slice A n c, .slice A' n c'] w fun e w' => e = .returned (.bool true) ∧ Below w.heap.size w w' := by
  have HR := Lib.hid h
  have HR' := Lib.hid h'
  have HN := Lib.hid hn
  have HL := Lib.hid hr
  clear h h' hn hr
  go_enter Try.func19, Try.ntmps19
  go_wp2
  go_loopw [5] (fun q wr => ∃ k : Nat, q = .int .i64 k ∧ k ≤ n ∧ Hid (Below w.heap.size w wr)) (fun q _ => n - (intOf q).toNat)
  case atStart => exact ⟨0, rfl, Nat.zero_le _, Lib.hid (Below.refl _ _)⟩
  case round =>
    obtain ⟨k, rfl, hk, HB⟩ := hrel
    by_cases hlt : k < n
    · have hki : (k : Int) < n := by omega
      obtain ⟨b, off, Ai, ci, rfl, _, hG⟩ := HR.out.at k (by have := HN.out; omega)
      obtain ⟨b', off', Ai', ci', rfl, _, hG'⟩ := HR'.out.at k (by have := HN.out; omega)
      obtain ⟨_, a0, a1, aR⟩ := hG _ HB.out
      obtain ⟨_, c0, c1, cR⟩ := hG' _ HB.out
      have HSM : Hid (∀ W, Below wr.heap.size wr W → Calls Try.prog 14 #[.slice Ai (Ar L k).c.length ci, .slice Ai' (Ar L k).c.length ci'] W fun e w' => e = .returned (.bool true) ∧ Below W.heap.size W w') := Lib.hid fun W hW => by
        have h3 := same7C_any Ai Ai' (Ar L k).c (Ar L k).c _ _ ci ci' rfl rfl (by have := HL.out k hlt; omega) W (aR.past hW) (cR.past hW)
        rwa [sameC_self] at h3
      clear hG hG' aR cR
      generalize (Ar L k).c.length = nk at *
      have hbw := fun W (hW : Below wr.heap.size wr W) => bel0 HB.out hW
      cases hq : (Ar L k).k
      all_goals
        rw [hq] at a1 c1
        clear hq
        go_wp2_with fail
        go_still_tail 22, (by kernel_rfl)
        change wpList _ _ _ _ _ wr.drew
        have HBD := Lib.hid ((Below.refl wr.heap.size wr).drew)
        have HS1 := Lib.hid (HSM.out _ HBD.out)
        clear a0 a1 c0 c1
        go_wp2_with (go_at_call 14; (with_reducible refine (HS1.out).mono ?_); rintro e w1 ⟨rfl, hb⟩; have HB1 := Lib.hid (bel0 (bel0 HB.out HBD.out) hb); clear hb)
        go_roundw
        case rel => exact ⟨k + 1, by go_num, hlt, HB1⟩
        case measure => simp [intOf]; omega
    · obtain rfl : k = n := by omega
      go_wp2
      go_ret
      exact ⟨rfl, HB.out⟩
end Go.Proofs.Ytfjgfmeanehpmaa
