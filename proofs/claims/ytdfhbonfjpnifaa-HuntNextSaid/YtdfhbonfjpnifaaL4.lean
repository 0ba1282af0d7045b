/- The law HuntFirst. -/
import Derived.Test.YtdfhbonfjpnifaaL3
namespace Go.Proofs.Ytdfhbonfjpnifaa
open Go.RowKit

theorem RH.take {W : World} {B : Nat} {A : Option Addr} {L : List (Nat × Nat)} (h : RH W B A L) (n : Nat) : RH W B A (L.take n) := fun hne => by
  obtain ⟨b, off, e, hlt, hc⟩ := h (fun e => hne (by rw [e]; simp))
  refine ⟨b, off, e, hlt, fun k hk => ?_⟩
  rw [List.length_take] at hk
  rw [List.getElem?_take, if_pos (by omega)]
  exact hc k (by omega)
theorem cell2_new (W W' : World) (x y : Int) (t : TypeId) (h : Below (W.alloc (.cells #[.int .i64 x, .int .i64 y] t)).heap.size (W.alloc (.cells #[.int .i64 x, .int .i64 y] t)) W') : W'.cell? ⟨W.heap.size, 0, none⟩ = some (.int .i64 x) ∧ W'.cell? ⟨W.heap.size, 1, none⟩ = some (.int .i64 y) := by
  have h1 := heap_alloc_new W (.cells #[.int .i64 x, .int .i64 y] t (0, 0))
  have hl := (Array.getElem?_eq_some_iff.1 h1).1
  exact ⟨(h.cell (p := ⟨W.heap.size, 0, none⟩) hl).trans (row_cell h1 0 _ rfl), (h.cell (p := ⟨W.heap.size, 1, none⟩) hl).trans (row_cell h1 1 _ rfl)⟩
set_option maxRecDepth 100000 in
set_option maxHeartbeats 4000000 in
theorem huntFirst_law (T : List UInt8) (Ns : List (List UInt8)) (z : Int) (n c : Nat) (A : Option Addr) (hn : n = Ns.length) (hn63 : n ≤ 9223372036854775807) (w : World) (hR : RT w w.heap.size A Ns) : Calls Try.prog 5 #[.string (bsB T), .int .i64 z, .slice A n c] w fun e w' => e = .returned (.bool true) ∧ Below w.heap.size w w' := by
  have HAW := Lib.hid awakeH_any
  have HG := Lib.hid (great_any T Ns n c A hn hn63 w hR)
  unfold GreatPost at HG
  have HF : Hid (SmallH T Ns → ∀ (zz : Int) W, Below w.heap.size w W → Calls Try.prog 17 #[.string (bsB T), .int .i64 zz, .slice A n c] W fun e w' => ∃ A1 c1, e = .returned (.slice A1 ((hitsL T Ns).take zz.toNat).length c1) ∧ RH w' w'.heap.size A1 ((hitsL T Ns).take zz.toNat) ∧ Below W.heap.size W w') := Lib.hid fun hs zz W hW => (first_any T Ns n c A (by have := hs.1; omega) hn (by have := hs.2.1; omega) (nAt_small fun i hi => by have := hs.2.2 i hi; omega) (by have := hU_le T Ns T.length; have := small_hits hs; unfold hitsL; omega) zz W (hR.past hW)).mono fun e w' ⟨A1, c1, he, ho, hb⟩ => ⟨A1, c1, he, rh_own ho rfl, hb⟩
  have HB : Hid (SmallH T Ns → ∀ W, Below w.heap.size w W → Calls Try.prog 13 #[.string (bsB T), .slice A n c] W fun e w' => ∃ A1 c1, e = .returned (.slice A1 (hitsL T Ns).length c1) ∧ (hitsL T Ns).length ≤ c1 ∧ RH w' w'.heap.size A1 (hitsL T Ns) ∧ Below W.heap.size W w') := Lib.hid fun hs W hW => (refAllH_any T Ns n c A (by have := hs.1; omega) hn (by have := hs.2.1; omega) (nAt_small fun i hi => by have := hs.2.2 i hi; omega) (by rw [hn]; have := small_hits hs; omega) W (hR.past hW)).mono fun e w' ⟨A1, c1, he, ho, hb⟩ => ⟨A1, c1, he, (by
      rcases ho.2 with ⟨e2, h0⟩ | ⟨g, cap, cur, e2, h3, h4, h5, _⟩
      · omega
      · injection e2 with _ _ e3
        omega), rh_own ho rfl, hb⟩
  have HS : Hid (SmallH T Ns → ∀ (m : Nat) (W : World) A1 c1 A2 c2, RH W W.heap.size A1 ((hitsL T Ns).take m) → RH W W.heap.size A2 ((hitsL T Ns).take m) → Calls Try.prog 11 #[.slice A1 ((hitsL T Ns).take m).length c1, .slice A2 ((hitsL T Ns).take m).length c2] W fun e w' => e = .returned (.bool true) ∧ Below W.heap.size W w') := Lib.hid fun hs m W A1 c1 A2 c2 h1 h2 => sameH_any ((hitsL T Ns).take m) _ c1 c2 A1 A2 rfl (by rw [List.length_take]; have := hU_le T Ns T.length; have := small_hits hs; unfold hitsL; omega) W h1 h2
  have HNX := Lib.hid nextNil_any
  have HLF := Lib.hid leftNil_any
  have HLM : Hid (SmallH T Ns → (hitsL T Ns).length ≤ 1000000) := Lib.hid fun hs => by have := hU_le T Ns T.length; have := small_hits hs; unfold hitsL; omega
  have hg := guardHit
  have E := fun W => eqHit_self W 0 0
  clear hn hn63 hR
  generalize hitsL T Ns = HL at *
  generalize bsB T = sT at *
  generalize SmallH T Ns = SM at *
  go_enter Try.func5, Try.ntmps5
  go_wp2_with fail
  (with_reducible refine HG.out.mono ?_)
  rintro e w1 ⟨r, hr, rfl, rfl⟩
  clear HG
  cases r with
  | true =>
    clear hr
    go_wp2_with (go_at_call 10; (with_reducible refine (HAW.out w).mono ?_); rintro e w8 ⟨rfl, hb8⟩; have HB8 := Lib.hid hb8; clear hb8)
    go_ret
    exact ⟨rfl, HB8.out⟩
  | false =>
    have HSM := Lib.hid (hr rfl)
    clear hr
    have HLMx := HLM.out HSM.out
    have HFS := Lib.hid (fun zz => HF.out HSM.out zz)
    have HSS := Lib.hid (fun m => HS.out HSM.out m)
    clear HF HS HLM
    by_cases hz : z < 0
    · by_cases hm : (0 : Int) < HL.length
      · have HF1 := Lib.hid (HFS.out (0))
        have HS1 := Lib.hid (HSS.out (Int.toNat (0)))
        obtain ⟨TK, htk⟩ : ∃ TK, TK = HL.take (Int.toNat (0)) := ⟨_, rfl⟩
        have HTL : Hid (TK.length = 0) := Lib.hid (by rw [htk, List.length_take]; omega)
        have HTR : Hid (∀ (W : World) A, RH W W.heap.size A HL → RH W W.heap.size A TK) := Lib.hid fun W A h => by rw [htk]; exact h.take _
        have HNE : Hid (0 < HL.length → HL ≠ []) := Lib.hid fun h e => by rw [e] at h; simp at h
        rw [← htk] at HF1 HS1
        rw [HTL.out] at HF1 HS1
        clear htk HFS HSS
        generalize hlen : HL.length = m at *
        clear hlen
        go_wp2_with (first
          | (go_at_call 10; (with_reducible refine (HAW.out w).mono ?_); rintro e w2 ⟨rfl, hb2⟩; have HB2 := Lib.hid hb2; clear hb2)
          | (go_at_call 13; (with_reducible refine (HB.out HSM.out w2 HB2.out).mono ?_); rintro e w4 ⟨A4, c4, rfl, hc4, hr4, hb4⟩; have HR4 := Lib.hid (HTR.out w4 A4 hr4); have HB4 := Lib.hid (bel0 HB2.out hb4); obtain ⟨b4, o4, rfl, _⟩ := hr4 (HNE.out (by omega)); clear hr4 hb4)
          | (go_at_call 16; (with_reducible refine (HNX.out _).mono ?_); rintro e w5 ⟨rfl, hb5⟩; have HB5 := Lib.hid (bel0 HB4.out hb5); have HR5 := Lib.hid (HR4.out.past hb5); clear hb5)
          | (go_at_call 17; (with_reducible refine (HF1.out _ (belA HB5.out _)).mono ?_); rintro e w6 ⟨A6, c6, rfl, hr6, hb6⟩; have HB6 := Lib.hid (bel0 (belA HB5.out _) hb6); have HR6 := Lib.hid hr6; have HR7 := Lib.hid ((HR5.out.past (belA (Below.refl _ _) _)).past hb6); have HC6 := Lib.hid hb6; clear hr6 hb6)
          | (go_at_call 11; (with_reducible refine (HS1.out w6 A6 c6 (some ⟨b4, o4, none⟩) c4 HR6.out HR7.out).mono ?_); rintro e w7 ⟨rfl, hb7⟩; have HB7 := Lib.hid (bel0 HB6.out hb7); have hc7 := bel0 HC6.out hb7; have q7 := cell2_new w5 w7 0 0 33 hc7; obtain ⟨q70, q71⟩ := q7; clear hb7 hc7)
          | (go_at_call 15; (with_reducible refine (HLF.out _).mono ?_); rintro e w9 ⟨rfl, hb9⟩; have HB9 := Lib.hid (bel0 HB7.out hb9); clear hb9))
        go_ret
        exact ⟨rfl, HB9.out⟩
      · have HF1 := Lib.hid (HFS.out (0))
        have HS1 := Lib.hid (HSS.out (Int.toNat (0)))
        obtain ⟨TK, htk⟩ : ∃ TK, TK = HL.take (Int.toNat (0)) := ⟨_, rfl⟩
        have HTL : Hid (TK.length = HL.length) := Lib.hid (by rw [htk, List.length_take]; omega)
        have HTR : Hid (∀ (W : World) A, RH W W.heap.size A HL → RH W W.heap.size A TK) := Lib.hid fun W A h => by rw [htk]; exact h.take _
        have HNE : Hid (0 < HL.length → HL ≠ []) := Lib.hid fun h e => by rw [e] at h; simp at h
        rw [← htk] at HF1 HS1
        rw [HTL.out] at HF1 HS1
        clear htk HFS HSS
        generalize hlen : HL.length = m at *
        clear hlen
        go_wp2_with (first
          | (go_at_call 10; (with_reducible refine (HAW.out w).mono ?_); rintro e w2 ⟨rfl, hb2⟩; have HB2 := Lib.hid hb2; clear hb2)
          | (go_at_call 13; (with_reducible refine (HB.out HSM.out w2 HB2.out).mono ?_); rintro e w4 ⟨A4, c4, rfl, hc4, hr4, hb4⟩; have HR4 := Lib.hid (HTR.out w4 A4 hr4); have HB4 := Lib.hid (bel0 HB2.out hb4); clear hr4 hb4)
          | (go_at_call 16; (with_reducible refine (HNX.out _).mono ?_); rintro e w5 ⟨rfl, hb5⟩; have HB5 := Lib.hid (bel0 HB4.out hb5); have HR5 := Lib.hid (HR4.out.past hb5); clear hb5)
          | (go_at_call 17; (with_reducible refine (HF1.out _ (belA HB5.out _)).mono ?_); rintro e w6 ⟨A6, c6, rfl, hr6, hb6⟩; have HB6 := Lib.hid (bel0 (belA HB5.out _) hb6); have HR6 := Lib.hid hr6; have HR7 := Lib.hid ((HR5.out.past (belA (Below.refl _ _) _)).past hb6); have HC6 := Lib.hid hb6; clear hr6 hb6)
          | (go_at_call 11; (with_reducible refine (HS1.out w6 A6 c6 A4 c4 HR6.out HR7.out).mono ?_); rintro e w7 ⟨rfl, hb7⟩; have HB7 := Lib.hid (bel0 HB6.out hb7); have hc7 := bel0 HC6.out hb7; have q7 := cell2_new w5 w7 0 0 33 hc7; obtain ⟨q70, q71⟩ := q7; clear hb7 hc7)
          | (go_at_call 15; (with_reducible refine (HLF.out _).mono ?_); rintro e w9 ⟨rfl, hb9⟩; have HB9 := Lib.hid (bel0 HB7.out hb9); clear hb9))
        go_ret
        exact ⟨rfl, HB9.out⟩
    · obtain ⟨zn, rfl⟩ := Int.eq_ofNat_of_zero_le (Int.not_lt.1 hz)
      by_cases hm : (zn : Int) < HL.length
      · have HF1 := Lib.hid (HFS.out (zn))
        have HS1 := Lib.hid (HSS.out (Int.toNat (zn)))
        obtain ⟨TK, htk⟩ : ∃ TK, TK = HL.take (Int.toNat (zn)) := ⟨_, rfl⟩
        have HTL : Hid (TK.length = zn) := Lib.hid (by rw [htk, List.length_take]; omega)
        have HTR : Hid (∀ (W : World) A, RH W W.heap.size A HL → RH W W.heap.size A TK) := Lib.hid fun W A h => by rw [htk]; exact h.take _
        have HNE : Hid (0 < HL.length → HL ≠ []) := Lib.hid fun h e => by rw [e] at h; simp at h
        rw [← htk] at HF1 HS1
        rw [HTL.out] at HF1 HS1
        clear htk HFS HSS
        generalize hlen : HL.length = m at *
        clear hlen
        go_wp2_with (first
          | (go_at_call 10; (with_reducible refine (HAW.out w).mono ?_); rintro e w2 ⟨rfl, hb2⟩; have HB2 := Lib.hid hb2; clear hb2)
          | (go_at_call 13; (with_reducible refine (HB.out HSM.out w2 HB2.out).mono ?_); rintro e w4 ⟨A4, c4, rfl, hc4, hr4, hb4⟩; have HR4 := Lib.hid (HTR.out w4 A4 hr4); have HB4 := Lib.hid (bel0 HB2.out hb4); obtain ⟨b4, o4, rfl, _⟩ := hr4 (HNE.out (by omega)); clear hr4 hb4)
          | (go_at_call 16; (with_reducible refine (HNX.out _).mono ?_); rintro e w5 ⟨rfl, hb5⟩; have HB5 := Lib.hid (bel0 HB4.out hb5); have HR5 := Lib.hid (HR4.out.past hb5); clear hb5)
          | (go_at_call 17; (with_reducible refine (HF1.out _ (belA HB5.out _)).mono ?_); rintro e w6 ⟨A6, c6, rfl, hr6, hb6⟩; have HB6 := Lib.hid (bel0 (belA HB5.out _) hb6); have HR6 := Lib.hid hr6; have HR7 := Lib.hid ((HR5.out.past (belA (Below.refl _ _) _)).past hb6); have HC6 := Lib.hid hb6; clear hr6 hb6)
          | (go_at_call 11; (with_reducible refine (HS1.out w6 A6 c6 (some ⟨b4, o4, none⟩) c4 HR6.out HR7.out).mono ?_); rintro e w7 ⟨rfl, hb7⟩; have HB7 := Lib.hid (bel0 HB6.out hb7); have hc7 := bel0 HC6.out hb7; have q7 := cell2_new w5 w7 0 0 33 hc7; obtain ⟨q70, q71⟩ := q7; clear hb7 hc7)
          | (go_at_call 15; (with_reducible refine (HLF.out _).mono ?_); rintro e w9 ⟨rfl, hb9⟩; have HB9 := Lib.hid (bel0 HB7.out hb9); clear hb9))
        go_ret
        exact ⟨rfl, HB9.out⟩
      · have HF1 := Lib.hid (HFS.out (zn))
        have HS1 := Lib.hid (HSS.out (Int.toNat (zn)))
        obtain ⟨TK, htk⟩ : ∃ TK, TK = HL.take (Int.toNat (zn)) := ⟨_, rfl⟩
        have HTL : Hid (TK.length = HL.length) := Lib.hid (by rw [htk, List.length_take]; omega)
        have HTR : Hid (∀ (W : World) A, RH W W.heap.size A HL → RH W W.heap.size A TK) := Lib.hid fun W A h => by rw [htk]; exact h.take _
        have HNE : Hid (0 < HL.length → HL ≠ []) := Lib.hid fun h e => by rw [e] at h; simp at h
        rw [← htk] at HF1 HS1
        rw [HTL.out] at HF1 HS1
        clear htk HFS HSS
        generalize hlen : HL.length = m at *
        clear hlen
        go_wp2_with (first
          | (go_at_call 10; (with_reducible refine (HAW.out w).mono ?_); rintro e w2 ⟨rfl, hb2⟩; have HB2 := Lib.hid hb2; clear hb2)
          | (go_at_call 13; (with_reducible refine (HB.out HSM.out w2 HB2.out).mono ?_); rintro e w4 ⟨A4, c4, rfl, hc4, hr4, hb4⟩; have HR4 := Lib.hid (HTR.out w4 A4 hr4); have HB4 := Lib.hid (bel0 HB2.out hb4); clear hr4 hb4)
          | (go_at_call 16; (with_reducible refine (HNX.out _).mono ?_); rintro e w5 ⟨rfl, hb5⟩; have HB5 := Lib.hid (bel0 HB4.out hb5); have HR5 := Lib.hid (HR4.out.past hb5); clear hb5)
          | (go_at_call 17; (with_reducible refine (HF1.out _ (belA HB5.out _)).mono ?_); rintro e w6 ⟨A6, c6, rfl, hr6, hb6⟩; have HB6 := Lib.hid (bel0 (belA HB5.out _) hb6); have HR6 := Lib.hid hr6; have HR7 := Lib.hid ((HR5.out.past (belA (Below.refl _ _) _)).past hb6); have HC6 := Lib.hid hb6; clear hr6 hb6)
          | (go_at_call 11; (with_reducible refine (HS1.out w6 A6 c6 A4 c4 HR6.out HR7.out).mono ?_); rintro e w7 ⟨rfl, hb7⟩; have HB7 := Lib.hid (bel0 HB6.out hb7); have hc7 := bel0 HC6.out hb7; have q7 := cell2_new w5 w7 0 0 33 hc7; obtain ⟨q70, q71⟩ := q7; clear hb7 hc7)
          | (go_at_call 15; (with_reducible refine (HLF.out _).mono ?_); rintro e w9 ⟨rfl, hb9⟩; have HB9 := Lib.hid (bel0 HB7.out hb9); clear hb9))
        go_ret
        exact ⟨rfl, HB9.out⟩

end Go.Proofs.Ytdfhbonfjpnifaa
