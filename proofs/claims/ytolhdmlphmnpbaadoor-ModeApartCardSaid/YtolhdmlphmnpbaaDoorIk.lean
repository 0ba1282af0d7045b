/- The walk of the document's With. -/
import Derived.Test.YtolhdmlphmnpbaaDoorIj
namespace Go.Proofs.YtolhdmlphmnpbaaDoor
open Go.RowKit

theorem RT.all {w : World} {B b : Nat} (h : RT w B (some ⟨b, 0, none⟩) allTx) : b < B ∧ ∀ k, k < 18 → w.cell? ⟨b, k, none⟩ = some (.string (bsB (tx k))) := by
  obtain ⟨b', off, e, hlt, hc⟩ := h (fun e => by have := allTx_len; rw [e] at this; simp at this)
  injection e with e
  injection e with e1 e2 _
  subst e1
  subst e2
  refine ⟨hlt, fun k hk => ?_⟩
  have := hc k (by rw [allTx_len]; exact hk)
  rwa [Nat.zero_add, allTx_at k hk] at this
theorem grown_cell {w2 w5 : World} {B n j : Nat} {vo : Value} {xs : List Value} {o : Obj} (hg : (w2.alloc o).grownBy w5 vo.ownBlock) (hs : B < w2.heap.size) (ho : w2.ownsRow (B + 1) 9 1 vo n xs) : w5.cell? ⟨B, j, none⟩ = w2.cell? ⟨B, j, none⟩ := by
  have h := (hg.block B (by simp; omega) (fun e => by have := (ho.lt B e.symm).1; omega)).trans (heap_alloc_old w2 o hs)
  simp only [World.cell?, h]
theorem placeZ_self (k : Nat) (hk : k < 18) : placeZ (pM k) (nM k) = k := by
  have h := tx_place k hk (pM k) (nM k)
  rw [show (tx k == textM (pM k) (nM k)) = true from beq_self_eq_true _] at h
  exact (of_decide_eq_true h.symm).symm
theorem listL_at (f : Nat → Bool) (k : Nat) (hk : k < 18) : (listL f).contains (tx k) = f k := by
  have h := listL_has f (pM k) (nM k)
  rw [placeZ_self k hk] at h
  refine h.trans ?_
  simp [isS]
set_option maxRecDepth 100000 in
set_option maxHeartbeats 8000000 in
theorem refWith_any (A : Option Addr) (f : Nat → Bool) (n c : Nat) (hn : n = (listL f).length) (p : Bool) (m : Int) (on : Bool) (w : World) (hR : RT w w.heap.size A (listL f)) :
    Calls Tryd.prog 11 #[.slice A n c, .string (bsB (textM p m)), .bool on] w (StrsPost (listL (updS f (placeZ p m) on)) w) := by
  obtain ⟨i0, hi, hz0, hz1, hz2⟩ := info_parts infoStr
  have hn18 : n ≤ 1000000 := by have := listL_le f; omega
  have HH : Hid (∀ (k : Nat), k < 18 → ∀ W, Below w.heap.size w W → Calls Tryd.prog 16 #[.slice A n c, .string (bsB (tx k))] W fun e w' => e = .returned (.bool (f k)) ∧ Below W.heap.size W w') := Lib.hid fun k hk W hb => by
    have h := has_any A (listL f) n c hn hn18 (tx k) W ((hR.below hb).more hb.size)
    rwa [listL_at f k hk] at h
  have HA := Lib.hid (all_any w)
  have HE : Hid (∀ k, k < 18 → (tx k == textM p m) = decide ((k : Int) = placeZ p m)) := Lib.hid fun k hk => tx_place k hk p m
  have HU : Hid (∀ k : Nat, updS f (placeZ p m) on k = if decide ((k : Int) = placeZ p m) = true then on else f k) := Lib.hid fun k => by
    unfold updS
    simp only [decide_eq_true_eq]
  clear hR hn hn18
  unfold StrsPost
  rw [show listL (updS f (placeZ p m) on) = listK (updS f (placeZ p m) on) 18 from rfl]
  generalize updS f (placeZ p m) on = f' at *
  generalize placeZ p m = z at *
  generalize textM p m = X at *
  go_enter Tryd.func11, Tryd.ntmps11
  go_wp2_with (go_at_call 18; (with_reducible refine (HA.out).mono ?_); rintro e w1 ⟨rfl, hb, hr⟩; have HB1 := Lib.hid hb; have HR1 := Lib.hid hr.all; clear hb hr)
  go_loopw [7, 9] (fun v i wr => ∃ (k : Nat) (vo : Value), vo = v ∧ k ≤ 18 ∧ i = .int .i64 k ∧ Hid (wr.ownsRow (w.heap.size + 1) 9 1 vo (listK f' k).length ((listK f' k).map fun l => Value.string (bsB l))) ∧ Hid (Below w.heap.size w wr) ∧ Hid (w.heap.size < wr.heap.size) ∧ Hid (∀ k, k < 18 → wr.cell? ⟨w.heap.size, k, none⟩ = some (.string (bsB (tx k))))) (fun _ i _ => 18 - (intOf i).toNat)
  case atStart => exact ⟨0, _, rfl, Nat.zero_le _, rfl, Lib.hid (World.ownsRow_nil _ _ _ _), HB1, Lib.hid HR1.out.1, Lib.hid HR1.out.2⟩
  case round =>
    obtain ⟨k, vo, rfl, hkn, rfl, HO, HB, HS, HY⟩ := hrel
    by_cases hlt : k < 18
    · have hki : (k : Int) < 18 := by omega
      have hcx := HY.out k hlt
      have hle := listK_le f' k
      have HC := Lib.hid (HH.out k hlt wr HB.out)
      have HUK := Lib.hid (HU.out k)
      have hq := HE.out k hlt
      clear HH HE HU
      generalize hd : decide ((k : Int) = z) = d at *
      clear hd
      cases d with
      | true =>
        have hxb : ((bsB (tx k)).toList == (bsB X).toList) = true := by rw [bs_toList, bs_toList]; exact hq
        clear hq
        rw [if_pos rfl] at HUK
        cases on with
        | true =>
          have HX := Lib.hid (listK_yes f' k HUK.out)
          clear HUK
          generalize f k = fk at *
          generalize tx k = T at *
          generalize hL : listK f' k = L at *
          clear hL
          go_wp2_with (first
            | (go_at_call 16; (with_reducible refine (HC.out).mono ?_); rintro e w2 ⟨rfl, hb⟩; have HB2 := Lib.hid (bel0 HB.out hb); have HO2 := Lib.hid (own_past HO.out hb); have hs2 := (bel0 HB.out hb).size; have HS2 := Lib.hid (Nat.lt_of_lt_of_le HS.out hb.size); have HY2 : Hid (∀ k, k < 18 → w2.cell? ⟨w.heap.size, k, none⟩ = some (.string (bsB (tx k)))) := Lib.hid (fun j hj => (hb.cell (p := ⟨w.heap.size, j, none⟩) HS.out).trans (HY.out j hj)); have hcx2 := (hb.cell (p := ⟨w.heap.size, k, none⟩) HS.out).trans hcx; clear hb)
            | (at_builtin; go_must (refine wpList_append_own _ rfl _ _ 29 rfl (w.heap.size + 1) 9 i0 (.string ⟨#[]⟩) 1 16 Tryd.underlying29 hi hz0 hz1 hz2 rfl (by decide) vo L.length (L.map fun l => Value.string (bsB l)) rfl (HO2.out.alloc _) ⟨w2.heap.size, 0, none⟩ 1 1 [.string (bsB T)] rfl rfl (news1 w2 _ _) (by simp [Value.oneCell']) (by unfold maxLen; omega) (by omega) (by simp; omega) ?_; intro v2 w5 hown2 hgrow2 _; have HO5 := Lib.hid hown2; have HB5 := Lib.hid ((HB2.out.alloc hs2 _).grown hgrow2 (by simp; omega) (fun j e => by have := (HO2.out.lt _ e).1; omega)); have HY5 : Hid (∀ k, k < 18 → w5.cell? ⟨w.heap.size, k, none⟩ = some (.string (bsB (tx k)))) := Lib.hid (fun j hj => (grown_cell hgrow2 HS2.out HO2.out).trans (HY2.out j hj)); have HS5 : Hid (w.heap.size < w5.heap.size) := Lib.hid (Nat.lt_of_lt_of_le HS2.out (by have := hgrow2.size; simp at this; omega)); clear hown2 hgrow2)))
          go_roundw
          case rel => exact ⟨k + 1, v2, rfl, hlt, by go_num, by rw [HX.out, List.map_append, List.length_append]; exact HO5, HB5, HS5, HY5⟩
          case measure => simp [intOf]; omega
        | false =>
          have HX := Lib.hid (listK_no f' k HUK.out)
          clear HUK
          generalize f k = fk at *
          generalize tx k = T at *
          go_wp2_with (go_at_call 16; (with_reducible refine (HC.out).mono ?_); rintro e w2 ⟨rfl, hb⟩; have HB2 := Lib.hid (bel0 HB.out hb); have HO2 := Lib.hid (own_past HO.out hb); have HS2 := Lib.hid (Nat.lt_of_lt_of_le HS.out hb.size); have HY2 : Hid (∀ k, k < 18 → w2.cell? ⟨w.heap.size, k, none⟩ = some (.string (bsB (tx k)))) := Lib.hid (fun j hj => (hb.cell (p := ⟨w.heap.size, j, none⟩) HS.out).trans (HY.out j hj)); have hcx2 := (hb.cell (p := ⟨w.heap.size, k, none⟩) HS.out).trans hcx; clear hb)
          go_roundw
          case rel => exact ⟨k + 1, vo, rfl, hlt, by go_num, by rw [HX.out]; exact HO2, HB2, HS2, HY2⟩
          case measure => simp [intOf]; omega
      | false =>
        have hxb : ((bsB (tx k)).toList == (bsB X).toList) = false := by rw [bs_toList, bs_toList]; exact hq
        clear hq
        rw [if_neg (by decide)] at HUK
        cases hf : f k with
        | true =>
          rw [hf] at HUK HC
          clear hf
          have HX := Lib.hid (listK_yes f' k HUK.out)
          clear HUK
          generalize tx k = T at *
          generalize hL : listK f' k = L at *
          clear hL
          go_wp2_with (first
            | (go_at_call 16; (with_reducible refine (HC.out).mono ?_); rintro e w2 ⟨rfl, hb⟩; have HB2 := Lib.hid (bel0 HB.out hb); have HO2 := Lib.hid (own_past HO.out hb); have hs2 := (bel0 HB.out hb).size; have HS2 := Lib.hid (Nat.lt_of_lt_of_le HS.out hb.size); have HY2 : Hid (∀ k, k < 18 → w2.cell? ⟨w.heap.size, k, none⟩ = some (.string (bsB (tx k)))) := Lib.hid (fun j hj => (hb.cell (p := ⟨w.heap.size, j, none⟩) HS.out).trans (HY.out j hj)); have hcx2 := (hb.cell (p := ⟨w.heap.size, k, none⟩) HS.out).trans hcx; clear hb)
            | (at_builtin; go_must (refine wpList_append_own _ rfl _ _ 29 rfl (w.heap.size + 1) 9 i0 (.string ⟨#[]⟩) 1 16 Tryd.underlying29 hi hz0 hz1 hz2 rfl (by decide) vo L.length (L.map fun l => Value.string (bsB l)) rfl (HO2.out.alloc _) ⟨w2.heap.size, 0, none⟩ 1 1 [.string (bsB T)] rfl rfl (news1 w2 _ _) (by simp [Value.oneCell']) (by unfold maxLen; omega) (by omega) (by simp; omega) ?_; intro v2 w5 hown2 hgrow2 _; have HO5 := Lib.hid hown2; have HB5 := Lib.hid ((HB2.out.alloc hs2 _).grown hgrow2 (by simp; omega) (fun j e => by have := (HO2.out.lt _ e).1; omega)); have HY5 : Hid (∀ k, k < 18 → w5.cell? ⟨w.heap.size, k, none⟩ = some (.string (bsB (tx k)))) := Lib.hid (fun j hj => (grown_cell hgrow2 HS2.out HO2.out).trans (HY2.out j hj)); have HS5 : Hid (w.heap.size < w5.heap.size) := Lib.hid (Nat.lt_of_lt_of_le HS2.out (by have := hgrow2.size; simp at this; omega)); clear hown2 hgrow2)))
          go_roundw
          case rel => exact ⟨k + 1, v2, rfl, hlt, by go_num, by rw [HX.out, List.map_append, List.length_append]; exact HO5, HB5, HS5, HY5⟩
          case measure => simp [intOf]; omega
        | false =>
          rw [hf] at HUK HC
          clear hf
          have HX := Lib.hid (listK_no f' k HUK.out)
          clear HUK
          generalize tx k = T at *
          go_wp2_with (go_at_call 16; (with_reducible refine (HC.out).mono ?_); rintro e w2 ⟨rfl, hb⟩; have HB2 := Lib.hid (bel0 HB.out hb); have HO2 := Lib.hid (own_past HO.out hb); have HS2 := Lib.hid (Nat.lt_of_lt_of_le HS.out hb.size); have HY2 : Hid (∀ k, k < 18 → w2.cell? ⟨w.heap.size, k, none⟩ = some (.string (bsB (tx k)))) := Lib.hid (fun j hj => (hb.cell (p := ⟨w.heap.size, j, none⟩) HS.out).trans (HY.out j hj)); have hcx2 := (hb.cell (p := ⟨w.heap.size, k, none⟩) HS.out).trans hcx; clear hb)
          go_roundw
          case rel => exact ⟨k + 1, vo, rfl, hlt, by go_num, by rw [HX.out]; exact HO2, HB2, HS2, HY2⟩
          case measure => simp [intOf]; omega
    · obtain rfl : k = 18 := by omega
      clear HH HE HU
      go_wp2
      go_ret
      exact ⟨_, rfl, own_mono HO.out (Nat.le_succ _), HB.out⟩
end Go.Proofs.YtolhdmlphmnpbaaDoor
