/- The walks of the document's stands, All, Same, and of great. -/
import Derived.Test.YtjifekdjkjnefaaK5
namespace Go.Proofs.Ytjifekdjkjnefaa
open Go.RowKit

set_option maxRecDepth 100000 in
set_option maxHeartbeats 4000000 in
theorem refAllH_any (T : List UInt8) (Ns : List (List UInt8)) (n c : Nat) (A : Option Addr) (hT : T.length ≤ 1000000) (hn : n = Ns.length) (hn2 : n ≤ 1000) (hNs : ∀ k, (nAt Ns k).length ≤ 1000000) (hb : T.length * n ≤ 1000000) (w : World) (hR : RT w w.heap.size A Ns) :
    Calls Try.prog 13 #[.string (bsB T), .slice A n c] w (HitsPost (hitsL T Ns) w) := by
  obtain ⟨i0, hi0, hz0, hz1, hz2⟩ := info_parts infoHit
  have hsT : ((bsB T).size : Int) = T.length := by rw [bsB_size]
  have HST : Hid (∀ (a i : Nat) (W : World), Calls Try.prog 24 #[.string (bsB T), .string (bsB (nAt Ns i)), .int .i64 a] W fun e w' => e = .returned (.bool (stB T Ns a i)) ∧ Below W.heap.size W w') := Lib.hid fun a i W => stands_any T Ns a i hT (hNs i) W
  have HR := Lib.hid hR
  have HN := Lib.hid hn
  have HU0 : Hid (hU T Ns 0 = []) := Lib.hid rfl
  have HUS : Hid (∀ a, hU T Ns (a + 1) = hU T Ns a ++ rowH T Ns a n) := Lib.hid fun a => by rw [hn]; exact hU_succ T Ns a
  have HRS := Lib.hid (fun a k => rowH_succ T Ns a k)
  have HR0 : Hid (∀ a, rowH T Ns a 0 = []) := Lib.hid fun a => rfl
  have HLE : Hid (∀ a k, a < T.length → k ≤ n → (hU T Ns a ++ rowH T Ns a k).length ≤ 1000000) := Lib.hid fun a k ha hk => by
    have h1 := hU_le T Ns a
    have h2 := rowH_le T Ns a k
    rw [← hn] at h1
    have h3 : (a + 1) * n ≤ T.length * n := Nat.mul_le_mul_right n ha
    rw [Nat.succ_mul] at h3
    rw [List.length_append]
    exact Nat.le_trans (Nat.add_le_add h1 (Nat.le_trans h2 hk)) (Nat.le_trans h3 hb)
  unfold HitsPost hitsL
  clear hn hR hNs hb
  generalize hU T Ns = HUU at *
  generalize rowH T Ns = RW at *
  generalize stB T Ns = SB at *
  generalize hbT : bsB T = sT at *
  clear hbT
  generalize T.length = tl at *
  go_enter Try.func13, Try.ntmps13
  go_wp2
  go_loopw [5, 6] (fun v q wr => ∃ (a m : Nat) (A1 : Option Addr) (c1 : Nat), v = .slice A1 m c1 ∧ q = .int .i64 a ∧ a ≤ tl ∧ Hid (m = (HUU a).length) ∧ Hid (wr.ownsRow w.heap.size 33 2 (.slice A1 m c1) m (htV (HUU a))) ∧ Hid (Below w.heap.size w wr)) (fun _ q _ => tl - (intOf q).toNat)
  case atStart => exact ⟨0, 0, none, 0, rfl, by go_num, Nat.zero_le _, Lib.hid (by rw [HU0.out]; rfl), Lib.hid (by rw [HU0.out]; exact World.ownsRow_nil _ _ _ _), Lib.hid (Below.refl _ _)⟩
  case round =>
    obtain ⟨a, m, A1, c1, rfl, rfl, ha, HM, HO, HB⟩ := hrel
    by_cases hlt : a < tl
    · have hai : (a : Int) < tl := by omega
      have HUA := Lib.hid (HUS.out a)
      have HRA := Lib.hid (HRS.out a)
      have HRZ := Lib.hid (HR0.out a)
      have HLA := Lib.hid (fun k hk => HLE.out a k hlt hk)
      have HSA := Lib.hid (fun i => HST.out a i)
      generalize HUU a = hu0 at *
      generalize RW a = rw0 at *
      generalize SB a = sb0 at *
      go_wp2
      go_loopw [5, 7] (fun v q wr2 => ∃ (k m2 : Nat) (A2 : Option Addr) (c2 : Nat), v = .slice A2 m2 c2 ∧ q = .int .i64 k ∧ k ≤ n ∧ Hid (m2 = (hu0 ++ rw0 k).length) ∧ Hid (wr2.ownsRow w.heap.size 33 2 (.slice A2 m2 c2) m2 (htV (hu0 ++ rw0 k))) ∧ Hid (Below w.heap.size w wr2)) (fun _ q _ => n - (intOf q).toNat)
      case atStart => exact ⟨0, m, A1, c1, rfl, by go_num, Nat.zero_le _, Lib.hid (by rw [HRZ.out, List.append_nil]; exact HM.out), Lib.hid (by rw [HRZ.out, List.append_nil]; exact HO.out), HB⟩
      case round =>
        obtain ⟨k, m2, A2, c2, rfl, rfl, hk, HM2, HO2, HB2⟩ := hrel
        by_cases hkn : k < n
        · have hki : (k : Int) < n := by omega
          obtain ⟨b, off, rfl, hblt, hc⟩ := HR.out (fun e => by have := HN.out; rw [e] at this; simp at this; omega)
          have hck : wr.cell? ⟨b, off + k, none⟩ = some (.string (bsB (nAt Ns k))) := (HB2.out.cell (p := ⟨b, off + k, none⟩) hblt).trans (hc k (by rw [← HN.out]; exact hkn))
          have HS1 := Lib.hid (HSA.out k)
          have HRK := Lib.hid (HRA.out k)
          have hle1 := HLA.out k hk
          rw [← HM2.out] at hle1
          have HOP := Lib.hid (fun W (hb : Below wr.heap.size wr W) => own_past HO2.out hb)
          have HBP := Lib.hid (fun W (hb : Below wr.heap.size wr W) => bel0 HB2.out hb)
          clear hc hblt
          generalize bsB (nAt Ns k) = sN at *
          generalize rw0 k = rk0 at *
          generalize sb0 k = sb at *
          cases sb with
          | true =>
            have HRK2 : Hid (rw0 (k + 1) = rk0 ++ [(a, k)]) := Lib.hid (by rw [HRK.out, if_pos rfl])
            clear HRK
            go_wp2_with (first
              | (go_at_call 24; (with_reducible refine (HS1.out _).mono ?_); rintro e w2 ⟨rfl, hb2⟩; have HO3 := Lib.hid (own_past (HOP.out w2 hb2) (belA (Below.refl w2.heap.size w2) (.cells #[.int .i64 (a : Nat), .int .i64 (k : Nat)] 33))); have HB3 := Lib.hid (HBP.out w2 hb2); have hsz := (belA (HBP.out w2 hb2) (.cells #[.int .i64 (a : Nat), .int .i64 (k : Nat)] 33)).size; clear hb2)
              | (at_builtin; go_must (refine wpList_append_own _ rfl _ _ 26 rfl w.heap.size 33 i0 _ 2 16 Try.underlying26 hi0 hz0 hz1 hz2 rfl (by decide) (.slice A2 m2 c2) m2 (htV (hu0 ++ rk0)) rfl HO3.out ⟨w2.heap.size, 0, none⟩ 1 1 [.int .i64 (a : Nat), .int .i64 (k : Nat)] rfl rfl (news2 w2 _ _ _) (by simp [Value.oneCell']) (by unfold maxLen; omega) (by omega) hsz ?_; intro v5 w5 hown5 hgrow5 _; obtain ⟨A5, c5, rfl, _⟩ := own_formC hown5; have HO5 := Lib.hid hown5; have HB5 := Lib.hid ((belA HB3.out _).grown hgrow5 hsz (fun j e => (HO3.out.lt _ e).1)); clear hown5 hgrow5)))
            go_roundw
            case rel => exact ⟨k + 1, m2 + 1, A5, c5, rfl, by go_num, hkn, Lib.hid (by rw [HRK2.out, ← List.append_assoc, List.length_append, ← HM2.out]; rfl), Lib.hid (by rw [HRK2.out, ← List.append_assoc, htV_snoc]; exact HO5.out), HB5⟩
            case measure => simp [intOf]; omega
          | false =>
            have HRK2 : Hid (rw0 (k + 1) = rk0) := Lib.hid (by rw [HRK.out, if_neg (by decide), List.append_nil])
            clear HRK
            go_wp2_with (go_at_call 24; (with_reducible refine (HS1.out _).mono ?_); rintro e w2 ⟨rfl, hb2⟩; have HO3 := Lib.hid (HOP.out w2 hb2); have HB3 := Lib.hid (HBP.out w2 hb2); clear hb2)
            go_roundw
            case rel => exact ⟨k + 1, m2, A2, c2, rfl, by go_num, hkn, Lib.hid (by rw [HRK2.out]; exact HM2.out), Lib.hid (by rw [HRK2.out]; exact HO3.out), HB3⟩
            case measure => simp [intOf]; omega
        · obtain rfl : k = n := by omega
          go_wp2
          go_roundw
          case rel => exact ⟨a + 1, m2, A2, c2, rfl, by go_num, hlt, Lib.hid (by rw [HUA.out]; exact HM2.out), Lib.hid (by rw [HUA.out]; exact HO2.out), HB2⟩
          case measure => simp [intOf]; omega
    · obtain rfl : a = tl := by omega
      go_wp2
      go_ret
      exact ⟨A1, c1, by rw [← HM.out]; rfl, by rw [← HM.out]; exact HO.out, HB.out⟩

end Go.Proofs.Ytjifekdjkjnefaa
