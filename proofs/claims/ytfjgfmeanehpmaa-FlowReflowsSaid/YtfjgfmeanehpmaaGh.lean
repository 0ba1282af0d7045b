/- The walk of mend, in place. -/
import Derived.Test.YtfjgfmeanehpmaaGg
namespace Go.Proofs.Ytfjgfmeanehpmaa
open Go.RowKit

set_option maxRecDepth 100000 in
set_option maxHeartbeats 4000000 in
theorem mendc_any (g n c : Nat) (l : List CC) (hn : n = l.length) (hl : n ≤ 1000000) (hcap : n ≤ c) (w : World) (h : MC w g l) :
    Calls Try.prog 47 #[.slice (some ⟨g, 0, none⟩) n c] w fun e w' => e = .returned (.tuple #[]) ∧ MC w' g (mendL l) ∧ KG g w w' := by
  have HM := Lib.hid h
  have HN := Lib.hid hn
  clear h hn
  go_enter Try.func47, Try.ntmps47
  go_wp2
  go_loopw [2] (fun q wr => ∃ i : Nat, q = .int .i64 i ∧ i ≤ n ∧ Hid (∃ M : List CC, M.length = n ∧ M.take i ++ mendL (M.drop i) = mendL l ∧ MC wr g M) ∧ Hid (KG g w wr)) (fun q _ => n - (intOf q).toNat)
  case atStart => exact ⟨0, rfl, Nat.zero_le _, Lib.hid ⟨l, HN.out.symm, rfl, HM.out⟩, Lib.hid (KG.refl _ _)⟩
  case round =>
    obtain ⟨i, rfl, hi, HH, HK⟩ := hrel
    by_cases hlt : i < n
    · have hlti : (i : Int) < n := by omega
      obtain ⟨M, hM1, hM2, hM3⟩ := HH.out
      obtain ⟨p, hp⟩ : ∃ p, (decide (1 < n - i) && pairB (Ac M i) (Ac M (i + 1))) = p := ⟨_, rfl⟩
      obtain ⟨q, hq⟩ : ∃ q, decide ((Ac M i).h = 0 ∨ (Ac M i).h = 3 ∧ n - i = 1) = q := ⟨_, rfl⟩
      have HP : Hid (∀ W c', Below wr.heap.size wr W → Calls Try.prog 55 #[.slice (some ⟨g, i * 8, none⟩) (n - i) c'] W fun e w' => e = .returned (.bool p) ∧ Below W.heap.size W w') := Lib.hid fun W c' hW => isPair_all g (i * 8) (n - i) c' _ _ W (hM3.past hW).lt ((hM3.past hW).at' i (by omega)) (fun h1 => by
        have := (hM3.past hW).at' (i + 1) (by omega)
        rwa [show (i + 1) * 8 = i * 8 + 8 by omega] at this) (by omega) p hp
      have HQ : Hid (∀ W c', Below wr.heap.size wr W → Calls Try.prog 56 #[.slice (some ⟨g, i * 8, none⟩) (n - i) c'] W fun e w' => e = .returned (.bool q) ∧ w' = W) := Lib.hid fun W c' hW => standsAlone_any g (i * 8) (n - i) c' _ W ((hM3.past hW).at' i (by omega)) (by omega) q hq
      have hic : (i : Int) < c := by omega
      have hnc : (n : Int) ≤ c := by omega
      have hpn : i + 1 < M.length → pairB (Ac M i) (Ac M (i + 1)) = p := fun h => by
        rw [← hp, decide_eq_true (by omega : 1 < n - i), Bool.true_and]
      cases p with
      | true =>
        have h2 : i + 1 < n := by
          simp only [Bool.and_eq_true, decide_eq_true_eq] at hp
          omega
        have HNX : Hid (∀ W, Below wr.heap.size wr W → ∃ M : List CC, M.length = n ∧ M.take (i + 2) ++ mendL (M.drop (i + 2)) = mendL l ∧ MC W g M) := Lib.hid fun W hW => ⟨M, hM1, by rw [← mend_pair M i (by omega) (hpn (by omega))]; exact hM2, hM3.past hW⟩
        clear HH HM hp hq hpn hM1 hM2 hM3 HQ
        go_wp2_with (go_at_call 55; (with_reducible refine (HP.out _ _ (Below.refl _ _)).mono ?_); rintro e1 w1 ⟨rfl, hb1⟩; have HN1 := Lib.hid (HNX.out _ hb1); have HK1 := Lib.hid (HK.out.past hb1); clear hb1)
        go_roundw
        case rel => exact ⟨i + 2, by go_num, h2, HN1, HK1⟩
        case measure => simp [intOf]; omega
      | false =>
        cases q with
        | true =>
          have hq' := of_decide_eq_true hq
          have HNX : Hid (∀ W, Below wr.heap.size wr W → ∃ M : List CC, M.length = n ∧ M.take (i + 1) ++ mendL (M.drop (i + 1)) = mendL l ∧ MC W g M) := Lib.hid fun W hW => ⟨M, hM1, by rw [← mend_keep M i (by omega) hpn (hq'.imp id fun h => ⟨h.1, by omega⟩)]; exact hM2, hM3.past hW⟩
          clear HH HM hp hq hq' hpn hM1 hM2 hM3
          go_wp2_with (first
            | (go_at_call 55; (with_reducible refine (HP.out _ _ (Below.refl _ _)).mono ?_); rintro e1 w1 ⟨rfl, hb1⟩; have HN1 := Lib.hid (HNX.out _ hb1); have HK1 := Lib.hid (HK.out.past hb1); have HB1 := Lib.hid hb1; clear hb1)
            | (go_at_call 56; (with_reducible refine (HQ.out _ _ HB1.out).mono ?_); rintro e2 w2 ⟨rfl, rfl⟩))
          go_roundw
          case rel => exact ⟨i + 1, by go_num, hlt, HN1, HK1⟩
          case measure => simp [intOf]; omega
        | false =>
          have hq' := of_decide_eq_false hq
          obtain ⟨x0, hx0⟩ : ∃ x0, Ac M i = x0 := ⟨_, rfl⟩
          have HNX : Hid (∀ W, Below wr.heap.size wr W → (∃ M : List CC, M.length = n ∧ M.take (i + 1) ++ mendL (M.drop (i + 1)) = mendL l ∧ MC (set8 W g (i * 8) (bare x0)) g M) ∧ C8 W g (i * 8) x0 ∧ g < W.heap.size ∧ ∀ k, W.frozen? ⟨g, k, none⟩ = false) := Lib.hid (by
            rw [← hx0]
            exact fun W hW => ⟨⟨M.set i (bare (Ac M i)), by rw [List.length_set]; exact hM1, by rw [← mend_bare M i (by omega) hpn (fun h => hq' (h.imp id fun h => ⟨h.1, by omega⟩))]; exact hM2, (hM3.past hW).set i (by omega) _⟩, (hM3.past hW).at' i (by omega), (hM3.past hW).lt, (hM3.past hW).free⟩)
          clear HH HM hp hq hq' hpn hM1 hM2 hM3 hx0
          go_wp2_with (first
            | (go_at_call 55; (with_reducible refine (HP.out _ _ (Below.refl _ _)).mono ?_); rintro e1 w1 ⟨rfl, hb1⟩; obtain ⟨hn1, ⟨a0, a1, a2, a3, a4, a5, a6, a7⟩, hg1, hf1⟩ := HNX.out _ hb1; have HN1 := Lib.hid hn1; have HK1 := Lib.hid (HK.out.past hb1); have HB1 := Lib.hid hb1; clear hb1 hn1)
            | (go_at_call 56; (with_reducible refine (HQ.out _ _ HB1.out).mono ?_); rintro e2 w2 ⟨rfl, rfl⟩))
          go_roundw
          case rel => exact ⟨i + 1, by go_num, hlt, HN1, Lib.hid (HK1.out.set8 (i * 8) (bare x0))⟩
          case measure => simp [intOf]; omega
    · obtain rfl : i = n := by omega
      have HE : Hid (MC wr g (mendL l)) := Lib.hid (by
        obtain ⟨M, h1, h2, h3⟩ := HH.out
        rw [List.take_of_length_le (by omega), List.drop_of_length_le (by omega)] at h2
        have h2 : M ++ [] = mendL l := h2
        rw [List.append_nil] at h2
        rwa [← h2])
      clear HH HM
      go_wp2
      go_end0
      exact ⟨rfl, HE.out, HK.out⟩
end Go.Proofs.Ytfjgfmeanehpmaa
