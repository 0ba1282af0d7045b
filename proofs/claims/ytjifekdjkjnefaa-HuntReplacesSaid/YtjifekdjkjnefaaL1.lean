/- The example of hunt; the law HuntAll. -/
import Derived.Test.YtjifekdjkjnefaaK9
import Derived.Test.YtjifekdjkjnefaaK7
namespace Go.Proofs.Ytjifekdjkjnefaa
open Go.RowKit

theorem rt_lit2 (W : World) (x y : List UInt8) (t : TypeId) : RT (W.alloc (.cells #[.string (bsB x), .string (bsB y)] t)) (W.alloc (.cells #[.string (bsB x), .string (bsB y)] t)).heap.size (some ⟨W.heap.size, 0, none⟩) [x, y] := fun _ =>
  ⟨W.heap.size, 0, rfl, by simp, fun k hk => by
    rw [cell_of_row _ _ _ _ _ _ (heap_alloc_new W _)]
    match k, hk with
    | 0, _ => rfl
    | 1, _ => rfl⟩
theorem rh_lit4 (W : World) (a b c d e f g h : Nat) (t : TypeId) : RH (W.alloc (.cells #[.int .i64 a, .int .i64 b, .int .i64 c, .int .i64 d, .int .i64 e, .int .i64 f, .int .i64 g, .int .i64 h] t)) (W.alloc (.cells #[.int .i64 a, .int .i64 b, .int .i64 c, .int .i64 d, .int .i64 e, .int .i64 f, .int .i64 g, .int .i64 h] t)).heap.size (some ⟨W.heap.size, 0, none⟩) [(a, b), (c, d), (e, f), (g, h)] := fun _ =>
  ⟨W.heap.size, 0, rfl, by simp, fun k hk => by
    rw [cell_of_row _ _ _ _ _ _ (heap_alloc_new W _), cell_of_row _ _ _ _ _ _ (heap_alloc_new W _)]
    match k, hk with
    | 0, _ => exact ⟨rfl, rfl⟩
    | 1, _ => exact ⟨rfl, rfl⟩
    | 2, _ => exact ⟨rfl, rfl⟩
    | 3, _ => exact ⟨rfl, rfl⟩⟩
theorem rh_lit2 (W : World) (a b c d : Nat) (t : TypeId) : RH (W.alloc (.cells #[.int .i64 a, .int .i64 b, .int .i64 c, .int .i64 d] t)) (W.alloc (.cells #[.int .i64 a, .int .i64 b, .int .i64 c, .int .i64 d] t)).heap.size (some ⟨W.heap.size, 0, none⟩) [(a, b), (c, d)] := fun _ =>
  ⟨W.heap.size, 0, rfl, by simp, fun k hk => by
    rw [cell_of_row _ _ _ _ _ _ (heap_alloc_new W _), cell_of_row _ _ _ _ _ _ (heap_alloc_new W _)]
    match k, hk with
    | 0, _ => exact ⟨rfl, rfl⟩
    | 1, _ => exact ⟨rfl, rfl⟩⟩
theorem nAt_small {Ns : List (List UInt8)} (h : ∀ i, i < Ns.length → (nAt Ns i).length ≤ 1000000) : ∀ k, (nAt Ns k).length ≤ 1000000 := fun k => by
  rcases Nat.lt_or_ge k Ns.length with h1 | h1
  · exact h k h1
  · unfold nAt
    rw [List.getElem?_eq_none h1]
    exact Nat.zero_le _
set_option maxRecDepth 100000 in
set_option maxHeartbeats 4000000 in
theorem awakeH_any (w : World) : Calls Try.prog 10 #[] w fun e w' => e = .returned (.bool true) ∧ Below w.heap.size w w' := by
  have hNs : ∀ k, (nAt [[97], [97, 98]] k).length ≤ 1000000 := nAt_small (by
    intro i hi
    match i, hi with
    | 0, _ => decide
    | 1, _ => decide)
  have eh : hitsL [97, 98, 97, 98] [[97], [97, 98]] = [(0, 0), (0, 1), (2, 0), (2, 1)] := by decide
  have el : lgL [[97], [97, 98]] (hitsL [97, 98, 97, 98] [[97], [97, 98]]) = [(0, 1), (2, 1)] := by rw [eh]; decide
  have HA : Hid (∀ W, Calls Try.prog 12 #[.string ⟨#[97, 98, 97, 98]⟩, .slice (some ⟨W.heap.size, 0, none⟩) 2 2] (W.alloc (.cells #[.string ⟨#[97]⟩, .string ⟨#[97, 98]⟩] 9)) fun e w' => ∃ A c, e = .returned (.slice A 4 c) ∧ RH w' w'.heap.size A [(0, 0), (0, 1), (2, 0), (2, 1)] ∧ Below W.heap.size W w') := Lib.hid fun W => by
    have h := allH_any [97, 98, 97, 98] [[97], [97, 98]] 2 2 (some ⟨W.heap.size, 0, none⟩) (by decide) rfl (by omega) hNs (by rw [eh]; decide) (W.alloc (.cells #[.string (bsB [97]), .string (bsB [97, 98])] 9)) (rt_lit2 W [97] [97, 98] _)
    rw [eh] at h
    exact h.mono fun e w' ⟨A, c, he, ho, hb⟩ => ⟨A, c, he, rh_own ho rfl, bel1 (Below.refl _ _) hb⟩
  have HL : Hid (∀ W, Calls Try.prog 18 #[.string ⟨#[97, 98, 97, 98]⟩, .slice (some ⟨W.heap.size, 0, none⟩) 2 2] (W.alloc (.cells #[.string ⟨#[97]⟩, .string ⟨#[97, 98]⟩] 9)) fun e w' => ∃ A c, e = .returned (.slice A 2 c) ∧ RH w' w'.heap.size A [(0, 1), (2, 1)] ∧ Below W.heap.size W w') := Lib.hid fun W => by
    have h := longest_any [97, 98, 97, 98] [[97], [97, 98]] 2 2 (some ⟨W.heap.size, 0, none⟩) (by decide) rfl (by omega) hNs (by rw [eh]; decide) (W.alloc (.cells #[.string (bsB [97]), .string (bsB [97, 98])] 9)) (rt_lit2 W [97] [97, 98] _)
    rw [el] at h
    exact h.mono fun e w' ⟨A, c, he, ho, hb⟩ => ⟨A, c, he, rh_own ho rfl, bel1 (Below.refl _ _) hb⟩
  have HS4 : Hid (∀ (W : World) A c, RH W W.heap.size A [(0, 0), (0, 1), (2, 0), (2, 1)] → Calls Try.prog 11 #[.slice A 4 c, .slice (some ⟨W.heap.size, 0, none⟩) 4 4] (W.alloc (.cells #[.int .i64 0, .int .i64 0, .int .i64 0, .int .i64 1, .int .i64 2, .int .i64 0, .int .i64 2, .int .i64 1] 33)) fun e w' => e = .returned (.bool true) ∧ Below W.heap.size W w') := Lib.hid fun W A c h => (sameH_any [(0, 0), (0, 1), (2, 0), (2, 1)] 4 c 4 A (some ⟨W.heap.size, 0, none⟩) rfl (by omega) (W.alloc (.cells #[.int .i64 0, .int .i64 0, .int .i64 0, .int .i64 1, .int .i64 2, .int .i64 0, .int .i64 2, .int .i64 1] 33)) (h.past (belA (Below.refl _ _) _)) (rh_lit4 W 0 0 0 1 2 0 2 1 _)).mono fun e w' h => ⟨h.1, bel1 (Below.refl _ _) h.2⟩
  have HS2 : Hid (∀ (W : World) A c, RH W W.heap.size A [(0, 1), (2, 1)] → Calls Try.prog 11 #[.slice A 2 c, .slice (some ⟨W.heap.size, 0, none⟩) 2 2] (W.alloc (.cells #[.int .i64 0, .int .i64 1, .int .i64 2, .int .i64 1] 33)) fun e w' => e = .returned (.bool true) ∧ Below W.heap.size W w') := Lib.hid fun W A c h => (sameH_any [(0, 1), (2, 1)] 2 c 2 A (some ⟨W.heap.size, 0, none⟩) rfl (by omega) (W.alloc (.cells #[.int .i64 0, .int .i64 1, .int .i64 2, .int .i64 1] 33)) (h.past (belA (Below.refl _ _) _)) (rh_lit2 W 0 1 2 1 _)).mono fun e w' h => ⟨h.1, bel1 (Below.refl _ _) h.2⟩
  clear eh el hNs
  go_enter Try.func10, Try.ntmps10
  go_wp2_with (first
    | (go_at_call 12; (with_reducible refine (HA.out w).mono ?_); rintro e w1 ⟨A1, c1, rfl, hr1, hb1⟩; have HR1 := Lib.hid hr1; have HB1 := Lib.hid hb1; clear hr1 hb1 HA)
    | (go_at_call 11; (with_reducible refine (HS4.out w1 A1 c1 HR1.out).mono ?_); rintro e w2 ⟨rfl, hb2⟩; have HB2 := Lib.hid (bel0 HB1.out hb2); clear hb2 HS4 HR1)
    | (go_at_call 18; (with_reducible refine (HL.out w2).mono ?_); rintro e w3 ⟨A3, c3, rfl, hr3, hb3⟩; have HR3 := Lib.hid hr3; have HB3 := Lib.hid (bel0 HB2.out hb3); clear hr3 hb3 HL)
    | (go_at_call 11; (with_reducible refine (HS2.out w3 A3 c3 HR3.out).mono ?_); rintro e w4 ⟨rfl, hb4⟩; have HB4 := Lib.hid (bel0 HB3.out hb4); clear hb4 HS2))
  go_ret
  exact ⟨rfl, HB4.out⟩
theorem small_hits {T : List UInt8} {Ns : List (List UInt8)} (h : SmallH T Ns) : T.length * Ns.length ≤ 6000 := Nat.le_trans (Nat.mul_le_mul h.1 h.2.1) (by omega)
set_option maxRecDepth 100000 in
set_option maxHeartbeats 4000000 in
theorem huntAll_law (T : List UInt8) (Ns : List (List UInt8)) (n c : Nat) (A : Option Addr) (hn : n = Ns.length) (hn63 : n ≤ 9223372036854775807) (w : World) (hR : RT w w.heap.size A Ns) : Calls Try.prog 3 #[.string (bsB T), .slice A n c] w fun e w' => e = .returned (.bool true) ∧ Below w.heap.size w w' := by
  have HAW := Lib.hid awakeH_any
  have HG := Lib.hid (great_any T Ns n c A hn hn63 w hR)
  unfold GreatPost at HG
  have HA : Hid (SmallH T Ns → ∀ W, Below w.heap.size w W → Calls Try.prog 12 #[.string (bsB T), .slice A n c] W fun e w' => ∃ A1 c1, e = .returned (.slice A1 (hitsL T Ns).length c1) ∧ RH w' w'.heap.size A1 (hitsL T Ns) ∧ Below W.heap.size W w') := Lib.hid fun hs W hW => (allH_any T Ns n c A (by have := hs.1; omega) hn (by have := hs.2.1; omega) (nAt_small fun i hi => by have := hs.2.2 i hi; omega) (by have := hU_le T Ns T.length; have := small_hits hs; unfold hitsL; omega) W (hR.past hW)).mono fun e w' ⟨A1, c1, he, ho, hb⟩ => ⟨A1, c1, he, rh_own ho rfl, hb⟩
  have HB : Hid (SmallH T Ns → ∀ W, Below w.heap.size w W → Calls Try.prog 13 #[.string (bsB T), .slice A n c] W fun e w' => ∃ A1 c1, e = .returned (.slice A1 (hitsL T Ns).length c1) ∧ RH w' w'.heap.size A1 (hitsL T Ns) ∧ Below W.heap.size W w') := Lib.hid fun hs W hW => (refAllH_any T Ns n c A (by have := hs.1; omega) hn (by have := hs.2.1; omega) (nAt_small fun i hi => by have := hs.2.2 i hi; omega) (by rw [hn]; have := small_hits hs; omega) W (hR.past hW)).mono fun e w' ⟨A1, c1, he, ho, hb⟩ => ⟨A1, c1, he, rh_own ho rfl, hb⟩
  have HS : Hid (SmallH T Ns → ∀ (W : World) A1 c1 A2 c2, RH W W.heap.size A1 (hitsL T Ns) → RH W W.heap.size A2 (hitsL T Ns) → Calls Try.prog 11 #[.slice A1 (hitsL T Ns).length c1, .slice A2 (hitsL T Ns).length c2] W fun e w' => e = .returned (.bool true) ∧ Below W.heap.size W w') := Lib.hid fun hs W A1 c1 A2 c2 h1 h2 => sameH_any (hitsL T Ns) _ c1 c2 A1 A2 rfl (by have := hU_le T Ns T.length; have := small_hits hs; unfold hitsL; omega) W h1 h2
  clear hn hn63 hR
  generalize hitsL T Ns = HL at *
  generalize HL.length = m at *
  generalize bsB T = sT at *
  generalize SmallH T Ns = SM at *
  go_enter Try.func3, Try.ntmps3
  go_wp2_with fail
  (with_reducible refine HG.out.mono ?_)
  rintro e w1 ⟨r, hr, rfl, rfl⟩
  clear HG
  cases r with
  | true =>
    clear hr
    go_wp2_with (go_at_call 10; (with_reducible refine (HAW.out w).mono ?_); rintro e w8 ⟨rfl, hb8⟩; have HB8 := Lib.hid hb8; clear hb8)
    go_ret
    exact ⟨rfl, HB8.out⟩
  | false =>
    have HSM := Lib.hid (hr rfl)
    clear hr
    go_wp2_with (first
      | (go_at_call 10; (with_reducible refine (HAW.out w).mono ?_); rintro e w2 ⟨rfl, hb2⟩; have HB2 := Lib.hid hb2; clear hb2)
      | (go_at_call 12; (with_reducible refine (HA.out HSM.out w2 HB2.out).mono ?_); rintro e w3 ⟨A3, c3, rfl, hr3, hb3⟩; have HR3 := Lib.hid hr3; have HB3 := Lib.hid (bel0 HB2.out hb3); clear hr3 hb3)
      | (go_at_call 13; (with_reducible refine (HB.out HSM.out w3 HB3.out).mono ?_); rintro e w4 ⟨A4, c4, rfl, hr4, hb4⟩; have HR4 := Lib.hid hr4; have HR3' := Lib.hid (HR3.out.past hb4); have HB4 := Lib.hid (bel0 HB3.out hb4); clear hr4 hb4)
      | (go_at_call 11; (with_reducible refine (HS.out HSM.out w4 A3 c3 A4 c4 HR3'.out HR4.out).mono ?_); rintro e w5 ⟨rfl, hb5⟩; have HB5 := Lib.hid (bel0 HB4.out hb5); clear hb5))
    go_ret
    exact ⟨rfl, HB5.out⟩

end Go.Proofs.Ytjifekdjkjnefaa
