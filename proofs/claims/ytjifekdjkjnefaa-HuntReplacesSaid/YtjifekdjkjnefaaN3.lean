/- The law HuntLongest. -/
import Derived.Test.YtjifekdjkjnefaaL2
import Derived.Test.YtjifekdjkjnefaaN1
namespace Go.Proofs.Ytjifekdjkjnefaa
open Go.RowKit

theorem lgF_le (Ns : List (List UInt8)) : ∀ (R : List (Nat × Nat)) (s : List (Nat × Nat) × Nat), (R.foldl (lgS Ns) s).1.length ≤ s.1.length + R.length
  | [], s => Nat.le_refl _
  | x :: R, s => by
    have h1 := lgF_le Ns R (lgS Ns s x)
    have h2 : (lgS Ns s x).1.length ≤ s.1.length + 1 := by
      unfold lgS
      split
      · simp
      · split
        · rw [List.length_append, List.length_dropLast]
          simp only [List.length_cons, List.length_nil]
          omega
        · omega
    rw [List.foldl_cons, List.length_cons]
    omega
theorem lgL_le (Ns : List (List UInt8)) (R : List (Nat × Nat)) : (lgL Ns R).length ≤ R.length := by
  have := lgF_le Ns R ([], 0)
  simpa [lgL] using this
set_option maxRecDepth 100000 in
set_option maxHeartbeats 4000000 in
theorem huntLongest_law (T : List UInt8) (Ns : List (List UInt8)) (n c : Nat) (A : Option Addr) (hn : n = Ns.length) (hn63 : n ≤ 9223372036854775807) (w : World) (hR : RT w w.heap.size A Ns) : Calls Try.prog 6 #[.string (bsB T), .slice A n c] w fun e w' => e = .returned (.bool true) ∧ Below w.heap.size w w' := by
  have HAW := Lib.hid awakeH_any
  have HG := Lib.hid (great_any T Ns n c A hn hn63 w hR)
  unfold GreatPost at HG
  have HLE : Hid (SmallH T Ns → (hitsL T Ns).length ≤ 1000000) := Lib.hid fun hs => by have := hU_le T Ns T.length; have := small_hits hs; unfold hitsL; omega
  have HA : Hid (SmallH T Ns → ∀ W, Below w.heap.size w W → Calls Try.prog 18 #[.string (bsB T), .slice A n c] W fun e w' => ∃ A1 c1, e = .returned (.slice A1 (lgL Ns (hitsL T Ns)).length c1) ∧ RH w' w'.heap.size A1 (lgL Ns (hitsL T Ns)) ∧ Below W.heap.size W w') := Lib.hid fun hs W hW => (longest_any T Ns n c A (by have := hs.1; omega) hn (by have := hs.2.1; omega) (nAt_small fun i hi => by have := hs.2.2 i hi; omega) (HLE.out hs) W (hR.past hW)).mono fun e w' ⟨A1, c1, he, ho, hb⟩ => ⟨A1, c1, he, rh_own ho rfl, hb⟩
  have HB : Hid (SmallH T Ns → ∀ W, Below w.heap.size w W → Calls Try.prog 19 #[.string (bsB T), .slice A n c] W fun e w' => ∃ A1 c1, e = .returned (.slice A1 (lgL Ns (hitsL T Ns)).length c1) ∧ RH w' w'.heap.size A1 (lgL Ns (hitsL T Ns)) ∧ Below W.heap.size W w') := Lib.hid fun hs W hW => (refLongest_any T Ns n c A (by have := hs.1; omega) hn (by have := hs.2.1; omega) (nAt_small fun i hi => by have := hs.2.2 i hi; omega) W (hR.past hW)).mono fun e w' ⟨A1, c1, he, ho, hb⟩ => ⟨A1, c1, he, rh_own ho rfl, hb⟩
  have HS : Hid (SmallH T Ns → ∀ (W : World) A1 c1 A2 c2, RH W W.heap.size A1 (lgL Ns (hitsL T Ns)) → RH W W.heap.size A2 (lgL Ns (hitsL T Ns)) → Calls Try.prog 11 #[.slice A1 (lgL Ns (hitsL T Ns)).length c1, .slice A2 (lgL Ns (hitsL T Ns)).length c2] W fun e w' => e = .returned (.bool true) ∧ Below W.heap.size W w') := Lib.hid fun hs W A1 c1 A2 c2 h1 h2 => sameH_any (lgL Ns (hitsL T Ns)) _ c1 c2 A1 A2 rfl (Nat.le_trans (lgL_le Ns _) (HLE.out hs)) W h1 h2
  clear HLE
  clear hn hn63 hR
  generalize lgL Ns (hitsL T Ns) = HL at *
  generalize HL.length = m at *
  generalize bsB T = sT at *
  generalize SmallH T Ns = SM at *
  go_enter Try.func6, Try.ntmps6
  go_wp2_with fail
  (with_reducible refine HG.out.mono ?_)
  rintro e w1 ⟨r, hr, rfl, rfl⟩
  clear HG
  cases r with
  | true =>
    clear hr
    go_wp2_with (go_at_call 10; (with_reducible refine (HAW.out w).mono ?_); rintro e w8 ⟨rfl, hb8⟩; have HB8 := Lib.hid hb8; clear hb8)
    go_ret
    exact ⟨rfl, HB8.out⟩
  | false =>
    have HSM := Lib.hid (hr rfl)
    clear hr
    go_wp2_with (first
      | (go_at_call 10; (with_reducible refine (HAW.out w).mono ?_); rintro e w2 ⟨rfl, hb2⟩; have HB2 := Lib.hid hb2; clear hb2)
      | (go_at_call 18; (with_reducible refine (HA.out HSM.out w2 HB2.out).mono ?_); rintro e w3 ⟨A3, c3, rfl, hr3, hb3⟩; have HR3 := Lib.hid hr3; have HB3 := Lib.hid (bel0 HB2.out hb3); clear hr3 hb3)
      | (go_at_call 19; (with_reducible refine (HB.out HSM.out w3 HB3.out).mono ?_); rintro e w4 ⟨A4, c4, rfl, hr4, hb4⟩; have HR4 := Lib.hid hr4; have HR3' := Lib.hid (HR3.out.past hb4); have HB4 := Lib.hid (bel0 HB3.out hb4); clear hr4 hb4)
      | (go_at_call 11; (with_reducible refine (HS.out HSM.out w4 A3 c3 A4 c4 HR3'.out HR4.out).mono ?_); rintro e w5 ⟨rfl, hb5⟩; have HB5 := Lib.hid (bel0 HB4.out hb5); clear hb5))
    go_ret
    exact ⟨rfl, HB5.out⟩

theorem huntLongest_str (s : ByteArray) (xs : List (List UInt8)) (n c : Nat) (A : Option Addr) (hn : n = xs.length) (h63 : n ≤ 9223372036854775807) (w : World) (hR : RT w w.heap.size A xs) : Calls Try.prog 6 #[.string s, .slice A n c] w fun e w' => e = .returned (.bool true) ∧ Below w.heap.size w w' := by
  rw [bs_of s]
  exact huntLongest_law _ xs n c A hn h63 w hR

end Go.Proofs.Ytjifekdjkjnefaa
