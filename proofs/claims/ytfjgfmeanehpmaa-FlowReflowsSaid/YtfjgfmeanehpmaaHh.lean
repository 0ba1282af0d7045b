/- The walk of flow.withoutPads. -/
import Derived.Test.YtfjgfmeanehpmaaHg
namespace Go.Proofs.Ytfjgfmeanehpmaa
open Go.RowKit

/-- A flow whose first cells have been looked at. -/
def unpadAt (l : List CC) (k : Nat) : List CC := unpad (l.take k) ++ l.drop k
theorem unpadAt_zero (l : List CC) : unpadAt l 0 = l := by simp [unpadAt, unpad]
theorem unpadAt_end (l : List CC) : unpadAt l l.length = unpad l := by simp [unpadAt]
theorem unpadAt_len (l : List CC) (k : Nat) : (unpadAt l k).length = l.length := by
  unfold unpadAt
  simp [unpad_len]
  omega
theorem unpadAt_get (l : List CC) (k : Nat) (h : k < l.length) : Ac (unpadAt l k) k = Ac l k := by
  unfold unpadAt Ac
  rw [List.getElem?_append_right (by rw [unpad_len]; simp; omega), unpad_len, List.length_take, Nat.min_eq_left (Nat.le_of_lt h), Nat.sub_self, List.getElem?_drop, Nat.add_zero]
theorem unpadAt_set (l : List CC) (k : Nat) (h : k < l.length) (y : CC) (hy : y = if (Ac l k).h = 3 then bare (Ac l k) else Ac l k) : (unpadAt l k).set k y = unpadAt l (k + 1) := by
  have e : Ac l k = l[k] := by unfold Ac; rw [List.getElem?_eq_getElem h]; rfl
  rw [e] at hy
  unfold unpadAt
  rw [List.set_append_right _ _ (by rw [unpad_len]; simp; omega), unpad_len, List.length_take, Nat.min_eq_left (Nat.le_of_lt h), Nat.sub_self, List.drop_eq_getElem_cons h, List.set_cons_zero, List.take_succ_eq_append_getElem h]
  unfold unpad
  rw [List.map_append, List.append_assoc, hy]
  rfl
theorem unpadAt_keep (l : List CC) (k : Nat) (h : k < l.length) (hp : (Ac l k).h ≠ 3) : unpadAt l k = unpadAt l (k + 1) := by
  rw [← unpadAt_set l k h _ rfl, if_neg hp, ← unpadAt_get l k h]
  apply List.ext_getElem?
  intro i
  rw [List.getElem?_set]
  by_cases hi : k = i
  · subst hi
    rw [if_pos rfl, if_pos (by rw [unpadAt_len]; exact h)]
    unfold Ac
    rw [List.getElem?_eq_getElem (by rw [unpadAt_len]; exact h)]
    rfl
  · rw [if_neg hi]
set_option maxRecDepth 100000 in
set_option maxHeartbeats 8000000 in
theorem withoutPads_any (A : Option Addr) (l : List CC) (n c : Nat) (hn : n = l.length) (hl : n ≤ 100000) (w : World) (h : RC w w.heap.size A l) :
    Calls Try.prog 36 #[.slice A n c] w fun e w' => ∃ v, e = .returned v ∧ OC w.heap.size w' v (unpad l) ∧ Below w.heap.size w w' := by
  have HC : Hid (Calls Try.prog 46 #[.slice A n c] w fun e w' => ∃ A1 c1, e = .returned (.slice A1 n c1) ∧ Below w.heap.size w w' ∧ OC w.heap.size w' (.slice A1 n c1) l) := Lib.hid <| (cloneC_any A l n c hn hl w h).mono fun e w' ⟨v, he, hb, ho⟩ => by
    have ho := OC.of_own ho hn
    obtain ⟨A1, c1, hv, _, _⟩ := ho.form'
    rw [← hn] at hv
    subst hv
    exact ⟨A1, c1, he, hb, ho⟩
  have HN := Lib.hid hn
  clear h hn
  go_enter Try.func36, Try.ntmps36
  go_wp2_with (go_at_call 46; (with_reducible refine (HC.out).mono ?_); rintro e w1 ⟨A1, c1, rfl, hb, ho⟩; have HB1 := Lib.hid hb; have HO1 := Lib.hid ho; clear hb ho)
  clear HC
  go_loopw [10] (fun q wr => ∃ k : Nat, q = .int .i64 k ∧ k ≤ n ∧ Hid (OC w.heap.size wr (.slice A1 n c1) (unpadAt l k)) ∧ Hid (Below w.heap.size w wr)) (fun q _ => n - (intOf q).toNat)
  case atStart => exact ⟨0, rfl, Nat.zero_le _, Lib.hid (by rw [unpadAt_zero]; exact HO1.out), HB1⟩
  case round =>
    obtain ⟨k, rfl, hk, HM, HB⟩ := hrel
    by_cases hlt : k < n
    · have hki : (k : Int) < n := by omega
      obtain ⟨g, rfl, hg, hc1, hM⟩ : ∃ g, A1 = some ⟨g, 0, none⟩ ∧ w.heap.size ≤ g ∧ n ≤ c1 ∧ MC wr g (unpadAt l k) := by
        rcases HM.out with ⟨h0, _⟩ | ⟨g, c', e, h1, h2, h3⟩
        · have := congrArg List.length h0
          rw [unpadAt_len] at this
          have := HN.out
          simp at *
          omega
        · injection e with e1 _ e3
          subst e3
          rw [unpadAt_len, ← HN.out] at h2
          exact ⟨g, e1, h1, h2, h3⟩
      have HMM := Lib.hid hM
      have HG := Lib.hid hg
      have HC1 := Lib.hid hc1
      obtain ⟨a0, a1, a2, a3, a4, a5, a6, a7⟩ := hM.at' k (by rw [unpadAt_len]; have := HN.out; omega)
      rw [unpadAt_get l k (by have := HN.out; omega)] at a0 a1 a2 a3 a4 a5 a6 a7
      clear hM hg hc1 HM HO1
      by_cases h3 : (Ac l k).h = 3
      · have HT := fun W => Lib.hid (isPad_any (Ac l k) true (by unfold notPad; rw [h3]; rfl) W)
        have HS : Hid ((unpadAt l k).set k (bare (Ac l k)) = unpadAt l (k + 1)) := Lib.hid (unpadAt_set l k (by have := HN.out; omega) _ (by rw [if_pos h3]))
        clear h3
        have HX : Hid (∀ W, Below wr.heap.size wr W → C8 W g (k * 8) (Ac l k) ∧ g < W.heap.size ∧ (∀ j, W.frozen? ⟨g, j, none⟩ = false) ∧ OC w.heap.size (set8 W g (k * 8) (bare (Ac l k))) (.slice (some ⟨g, 0, none⟩) n c1) (unpadAt l (k + 1)) ∧ Below w.heap.size w (set8 W g (k * 8) (bare (Ac l k)))) := Lib.hid fun W hW => by
          have hm := HMM.out.past hW
          have hkl : k < (unpadAt l k).length := by rw [unpadAt_len]; have := HN.out; omega
          have h8 := hm.at' k hkl
          rw [unpadAt_get l k (by have := HN.out; omega)] at h8
          have hs := hm.set k hkl (bare (Ac l k))
          rw [HS.out] at hs
          exact ⟨h8, hm.lt, hm.free, .inr ⟨g, c1, by rw [unpadAt_len, HN.out], HG.out, by rw [unpadAt_len, ← HN.out]; exact HC1.out, hs⟩, Below.ofKG (bel0 HB.out hW) ((KG.refl g W).set8 (k * 8) (bare (Ac l k))) HG.out (bel0 HB.out hW).size⟩
        generalize Ac l k = x at *
        go_wp2_with (go_at_call 31; (with_reducible refine ((HT _).out).mono ?_); rintro e w2 ⟨rfl, hb⟩; obtain ⟨hc2, hf2⟩ := bcell hb; have hsz2 := hb.size; simp only [World.size_alloc] at hsz2; obtain ⟨⟨b0, b1, b2, b3, b4, b5, b6, b7⟩, hg2, hfr2, hm2, hb2⟩ := HX.out _ (bel1 (Below.refl _ _) hb); have HM2 := Lib.hid hm2; have HB2 := Lib.hid hb2; clear hb hm2 hb2)
        go_roundw
        case rel => exact ⟨k + 1, by go_num, hlt, HM2, HB2⟩
        case measure => simp [intOf]; omega
      · have HT := fun W => Lib.hid (isPad_any (Ac l k) false (by unfold notPad; rw [show ((Ac l k).h == 3) = false by simpa using h3]) W)
        have HX : Hid (∀ W, Below wr.heap.size wr W → OC w.heap.size W (.slice (some ⟨g, 0, none⟩) n c1) (unpadAt l (k + 1)) ∧ Below w.heap.size w W) := Lib.hid fun W hW => by
          have e := unpadAt_keep l k (by have := HN.out; omega) h3
          exact ⟨.inr ⟨g, c1, by rw [unpadAt_len, HN.out], HG.out, by rw [unpadAt_len, ← HN.out]; exact HC1.out, by rw [← e]; exact HMM.out.past hW⟩, bel0 HB.out hW⟩
        clear h3
        generalize Ac l k = x at *
        go_wp2_with (go_at_call 31; (with_reducible refine ((HT _).out).mono ?_); rintro e w2 ⟨rfl, hb⟩; have HX2 := Lib.hid (HX.out _ (bel1 (Below.refl _ _) hb)); clear hb)
        go_roundw
        case rel => exact ⟨k + 1, by go_num, hlt, Lib.hid HX2.out.1, Lib.hid HX2.out.2⟩
        case measure => simp [intOf]; omega
    · obtain rfl : k = n := by omega
      have HE : Hid (OC w.heap.size wr (.slice A1 k c1) (unpad l)) := Lib.hid (by
        have := HM.out
        have e := unpadAt_end l
        rw [← HN.out] at e
        rwa [e] at this)
      clear HM HO1
      go_wp2
      go_ret
      exact ⟨_, rfl, HE.out, HB.out⟩
end Go.Proofs.Ytfjgfmeanehpmaa
