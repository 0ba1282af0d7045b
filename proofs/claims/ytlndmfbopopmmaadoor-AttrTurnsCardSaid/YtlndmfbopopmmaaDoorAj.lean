/- The walk of behind. -/
import Derived.Test.YtlndmfbopopmmaaDoorAi
namespace Go.Proofs.YtlndmfbopopmmaaDoor
open Go.RowKit

/-- A group's first value. -/
def hd0 (r : List Int) : Int := most0Z (r.headD 0)
def colorP (c : Int × Int) (kind : Int) (xs : List Int) : Int × Int := if partsOk xs = true then (kind, foldC xs) else c
theorem colorP_eq (c : Int × Int) (kind : Int) (xs : List Int) : colorOfV c.1 c.2 kind xs = .agg #[.int .i64 (colorP c kind xs).1, .int .i64 (colorP c kind xs).2] := by
  unfold colorOfV colorP
  split <;> rfl
def withinP (c : Int × Int) (xs : List Int) : Int × Int := if xs[1]?.getD 0 = 5 ∧ xs.length = 3 then colorP c 1 (xs.drop 2) else if xs[1]?.getD 0 = 2 ∧ (xs.length = 5 ∨ xs.length = 6) then colorP c 2 (xs.drop (xs.length - 3)) else c
theorem withinP_eq (c : Int × Int) (xs : List Int) : withinV c.1 c.2 xs = .agg #[.int .i64 (withinP c xs).1, .int .i64 (withinP c xs).2] := by
  unfold withinV withinP
  split
  · exact colorP_eq _ _ _
  · split
    · exact colorP_eq _ _ _
    · rfl
theorem first_row {w : World} {B : Nat} {A : Option Addr} {r : List Int} (c : Nat) (h : RI w B A r) : Calls Tryd.prog 22 #[.slice A r.length c] w fun e w' => e = .returned (.int .i64 (hd0 r)) ∧ Below w.heap.size w w' := by
  cases r with
  | nil => exact first_none A c w
  | cons x t =>
    obtain ⟨b, off, rfl, _, hc⟩ := h (by simp)
    exact first_some b off (t.length + 1) c x (by omega) w (hc 0 (by simp))
/-- Where the groups lie. -/
def GroupsAt (w : World) (b off : Nat) (L : List (List Int)) : Prop :=
  ∀ k, k < L.length → ∃ Ai ci, (L[k]?.getD []).length ≤ ci ∧ ∀ W, Below w.heap.size w W → W.cell? ⟨b, off + k, none⟩ = some (.slice Ai (L[k]?.getD []).length ci) ∧ RI W w.heap.size Ai (L[k]?.getD [])
theorem groups_at {w : World} {A : Option Addr} {L : List (List Int)} (h : RG w w.heap.size A L) (hne : L ≠ []) : ∃ b off, A = some ⟨b, off, none⟩ ∧ GroupsAt w b off L := by
  obtain ⟨b, off, rfl, hb, hc⟩ := h hne
  refine ⟨b, off, rfl, fun k hk => ?_⟩
  obtain ⟨Ai, ci, h1, h2, h3⟩ := hc k hk
  exact ⟨Ai, ci, h3, fun W hW => ⟨(hW.cell (p := ⟨b, off + k, none⟩) hb).trans h1, h2.below hW⟩⟩
/-- What the groups behind one that tells a color make of a color, and how many are done with. -/
def behindP (c : Int × Int) (L : List (List Int)) : (Int × Int) × Nat :=
  match L with
  | [] => (c, 0)
  | g :: t => if hd0 g = 5 then (if t.length < 1 then (c, t.length + 1) else (colorP c 1 ((t.take 1).map hd0), 2)) else if hd0 g = 2 then (if t.length < 3 then (c, t.length + 1) else (colorP c 2 ((t.take 3).map hd0), 4)) else (c, 1)
theorem res_cells {w w3 : World} {k0 n0 : Int} (hb : Below ((w.alloc (.cells #[.int .i64 k0, .int .i64 n0] 23)).alloc (.cells #[.int .i64 0, .int .i64 0] 23)).heap.size ((w.alloc (.cells #[.int .i64 k0, .int .i64 n0] 23)).alloc (.cells #[.int .i64 0, .int .i64 0] 23)) w3) :
    w3.cell? ⟨w.heap.size, 0, none⟩ = some (.int .i64 k0) ∧ w3.cell? ⟨w.heap.size, 1, none⟩ = some (.int .i64 n0) ∧ w3.cell? ⟨w.heap.size + 1, 0, none⟩ = some (.int .i64 0) ∧ w3.cell? ⟨w.heap.size + 1, 1, none⟩ = some (.int .i64 0) ∧ w3.frozen? ⟨w.heap.size + 1, 0, none⟩ = false ∧ w3.frozen? ⟨w.heap.size + 1, 1, none⟩ = false := by
  obtain ⟨hc, hf⟩ := bcell hb
  refine ⟨(hc _ _ (by simp <;> omega)).trans (by simp), (hc _ _ (by simp <;> omega)).trans (by simp), (hc _ _ (by simp <;> omega)).trans (by simp), (hc _ _ (by simp <;> omega)).trans (by simp), (hf _ _ (by simp <;> omega)).trans (by simp), (hf _ _ (by simp <;> omega)).trans (by simp)⟩
theorem res_below {w w3 : World} {v0 v1 : Value} (hb : Below w.heap.size w w3) : Below w.heap.size w ((w3.setCell ⟨w.heap.size + 1, 0, none⟩ v0).setCell ⟨w.heap.size + 1, 1, none⟩ v1) :=
  (hb.setCell (p := ⟨w.heap.size + 1, 0, none⟩) (Nat.le_succ _) _).setCell (p := ⟨w.heap.size + 1, 1, none⟩) (Nat.le_succ _) _
def BehPost (k0 n0 : Int) (L : List (List Int)) (w : World) (e : Ending) (w' : World) : Prop := e = .returned (.tuple #[.agg #[.int .i64 (behindP (k0, n0) L).1.1, .int .i64 (behindP (k0, n0) L).1.2], .int .i64 (behindP (k0, n0) L).2]) ∧ Below w.heap.size w w'

set_option maxHeartbeats 2000000 in
theorem behind_none (k0 n0 : Int) (A : Option Addr) (c : Nat) (w : World) :
    Calls Tryd.prog 35 #[.agg #[.int .i64 k0, .int .i64 n0], .slice A 0 c] w (BehPost k0 n0 [] w) := by
  unfold BehPost
  go_enter Tryd.func35, Tryd.ntmps35
  go_wp2
  exact bodyPost_ret (v := .tuple #[.agg #[.int .i64 k0, .int .i64 n0], .int .i64 0]) (by simp [results, Tryd.results35, go_sem]) rfl ⟨rfl, ((Below.refl _ _).alloc (Nat.le_refl _) _).alloc (by simp) _⟩

set_option maxHeartbeats 4000000 in
theorem behind_any (k0 n0 : Int) (A : Option Addr) (g : List Int) (t : List (List Int)) (n c : Nat) (hn : n = (g :: t).length) (hc : n ≤ c) (w : World) (hR : RG w w.heap.size A (g :: t)) :
    Calls Tryd.prog 35 #[.agg #[.int .i64 k0, .int .i64 n0], .slice A n c] w (BehPost k0 n0 (g :: t) w) := by
  obtain ⟨b, off, rfl, hga⟩ := groups_at hR (by simp)
  obtain ⟨i0, hi0, hz0, hz1, hz2⟩ := info_parts Tryd.infoInt
  have HG := Lib.hid hga
  obtain ⟨A0, c0, hc0, h0⟩ := hga 0 (by simp)
  have HF0 : Hid (∀ W, Below w.heap.size w W → Calls Tryd.prog 22 #[.slice A0 g.length c0] W fun e w' => e = .returned (.int .i64 (hd0 g)) ∧ Below W.heap.size W w') := Lib.hid fun W hW => first_row c0 (h0 W hW).2
  have HC0 : Hid (∀ W, Below w.heap.size w W → W.cell? ⟨b, off, none⟩ = some (.slice A0 g.length c0)) := Lib.hid fun W hW => (h0 W hW).1
  have hn0 : ((n : Int) == 0) = false := by simp at hn; simp; omega
  have hnp : (0 : Int) < n := by simp at hn; omega
  have HN := Lib.hid hn
  have hci : (n : Int) ≤ c := by omega
  have hcc := HC0.out _ (belA (belA (Below.refl _ _) (.cells #[.int .i64 k0, .int .i64 n0] 23)) (.cells #[.int .i64 0, .int .i64 0] 23))
  clear hR hga h0 hn
  by_cases h5 : hd0 g = 5
  · have hb5 : (hd0 g == 5) = true := by simp [h5]
    have hb2 : (hd0 g == 2) = false := by simp [h5]
    by_cases ht : t.length < 1
    · have HE : Hid (behindP (k0, n0) (g :: t) = ((k0, n0), n)) := Lib.hid (by simp only [behindP]; rw [if_pos h5, if_pos ht, HN.out]; rfl)
      have hle : (n : Int) ≤ 1 := by have := HN.out; simp at this; omega
      unfold BehPost
      rw [HE.out]
      generalize hd0 g = v at *
      clear h5 HE ht
      go_enter Tryd.func35, Tryd.ntmps35
      go_wp2_with (go_at_call 22; (with_reducible refine (HF0.out _ (belA (belA (Below.refl _ _) _) _)).mono ?_); rintro e w3 ⟨rfl, hb3⟩; obtain ⟨q0, q1, r0, r1, f0, f1⟩ := res_cells hb3; have hz3 := sz2 hb3; have HX := Lib.hid hb3; have HB3 := Lib.hid (bel2 (Below.refl _ _) hb3); have hcc3 := HC0.out _ HB3.out; clear hb3)
      exact bodyPost_ret (v := .tuple #[.agg #[.int .i64 k0, .int .i64 n0], .int .i64 n]) (by simp [results, Tryd.results35, go_sem, r0, r1]) rfl ⟨rfl, res_below HB3.out⟩
    · have HE : Hid (behindP (k0, n0) (g :: t) = (colorP (k0, n0) 1 ((t.take 1).map hd0), 2)) := Lib.hid (by simp only [behindP]; rw [if_pos h5, if_neg ht])
      have hle : ¬ (n : Int) ≤ 1 := by have := HN.out; simp at this; omega
      have hle2 : (2 : Int) ≤ n := by omega
      have hle3 : (2 : Int) ≤ c := by omega
      have hc1 : 1 ≤ c := by omega
      have hcne : ¬ c = 1 := by omega
      have HROW : Hid (∀ k, k < 1 → ∃ Ai m ci, ∀ W, Below w.heap.size w W → W.cell? ⟨b, off + 1 + k, none⟩ = some (.slice Ai m ci) ∧ Calls Tryd.prog 22 #[.slice Ai m ci] W fun e w' => e = .returned (.int .i64 (hd0 (t[k]?.getD []))) ∧ Below W.heap.size W w') := Lib.hid fun k hk => by
        obtain ⟨Ai, ci, _, h⟩ := HG.out (1 + k) (by simp; omega)
        rw [show (g :: t)[1 + k]? = t[k]? by rw [Nat.add_comm]; rfl] at h
        refine ⟨Ai, (t[k]?.getD []).length, ci, fun W hW => ?_⟩
        rw [Nat.add_assoc]
        exact ⟨(h W hW).1, first_row ci (h W hW).2⟩
      have HCO : Hid (∀ W A c, RI W W.heap.size A ((t.take 1).map hd0) → Calls Tryd.prog 38 #[.agg #[.int .i64 k0, .int .i64 n0], .int .i64 1, .slice A 1 c] W fun e w' => e = .returned (.agg #[.int .i64 (colorP (k0, n0) 1 ((t.take 1).map hd0)).1, .int .i64 (colorP (k0, n0) 1 ((t.take 1).map hd0)).2]) ∧ Below W.heap.size W w') := Lib.hid fun W A c h => by
        have := colorOf_any k0 n0 1 A ((t.take 1).map hd0) 1 c (by simp; omega) (by omega) W h
        rw [colorP_eq (k0, n0)] at this
        exact this
      have HTK : Hid (∀ k, k < 1 → (t.take (k + 1)).map hd0 = (t.take k).map hd0 ++ [hd0 (t[k]?.getD [])]) := Lib.hid fun k hk => by rw [take_snocL t k [] (by omega), List.map_append]; rfl
      unfold BehPost
      rw [HE.out]
      generalize (colorP (k0, n0) 1 ((t.take 1).map hd0)).1 = ck at *
      generalize (colorP (k0, n0) 1 ((t.take 1).map hd0)).2 = cn at *
      generalize hd0 g = v at *
      clear h5 HE ht HG HN
      go_enter Tryd.func35, Tryd.ntmps35
      go_upto_region 14 with (go_at_call 22; (with_reducible refine (HF0.out _ (belA (belA (Below.refl _ _) _) _)).mono ?_); rintro e w3 ⟨rfl, hb3⟩; obtain ⟨q0, q1, r0, r1, f0, f1⟩ := res_cells hb3; have hz3 := sz2 hb3; have HX := Lib.hid hb3; have HB3 := Lib.hid (bel2 (Below.refl _ _) hb3); have hcc3 := HC0.out _ HB3.out; clear hb3)
      go_loopw [8, 36] (fun s8 ii wr => ∃ (k : Nat) (v : Value), k ≤ 1 ∧ s8 = v ∧ ii = .int .i64 k ∧ Hid (Below w3.heap.size w3 wr ∧ wr.ownsRow w3.heap.size 3 1 v k (((t.take k).map hd0).map (Value.int .i64)))) (fun _ ii _ => 1 - (intOf ii).toNat)
      case atStart => exact ⟨0, _, Nat.zero_le _, rfl, rfl, Lib.hid ⟨Below.refl _ _, by simpa using World.ownsRow_nil w3 w3.heap.size 3 1⟩⟩
      case round =>
        obtain ⟨k, v, hk, rfl, rfl, HS⟩ := hrel
        by_cases hlt : k < 1
        · have hki : (k : Int) < 1 := by omega
          obtain ⟨Ai, m, ci, hrow⟩ := HROW.out k hlt
          have hcr := (hrow wr (bel0 HB3.out HS.out.1)).1
          have HFK := Lib.hid (hrow wr (bel0 HB3.out HS.out.1)).2
          obtain ⟨Av, cv, hv, _⟩ := own_form HS.out.2
          subst hv
          have HTN := Lib.hid (HTK.out k hlt)
          obtain ⟨PN, hPN⟩ : ∃ PN, (t.take (k + 1)).map hd0 = PN := ⟨_, rfl⟩
          rw [hPN] at HTN
          have HPE := Lib.hid hPN
          generalize hd0 (t[k]?.getD []) = y at *
          generalize (t.take k).map hd0 = PK at *
          have HNX : Hid (∀ w4, Below wr.heap.size wr w4 → (w4.alloc (.cells #[.int .i64 y] 3)).ownsRow w3.heap.size 3 1 (.slice Av k cv) k (PK.map (Value.int .i64)) ∧ w3.heap.size ≤ w4.heap.size ∧ ∀ w5 v2, (w4.alloc (.cells #[.int .i64 y] 3)).grownBy w5 (Value.slice Av k cv).ownBlock → w5.ownsRow w3.heap.size 3 1 v2 (k + 1) (PK.map (Value.int .i64) ++ [.int .i64 y]) → Below w3.heap.size w3 w5 ∧ w5.ownsRow w3.heap.size 3 1 v2 (k + 1) (PN.map (Value.int .i64))) := Lib.hid fun w4 hb4 => ⟨(own_past HS.out.2 hb4).alloc _, Nat.le_trans HS.out.1.size hb4.size, fun w5 v2 hg h2 => ⟨(belA (bel0 HS.out.1 hb4) _).grown hg (by have := HS.out.1.size; have := hb4.size; simp; omega) (fun j e => (HS.out.2.lt j e).1), by rw [HTN.out, List.map_append]; exact h2⟩⟩
          clear HS hPN hrow
          generalize PK.map (Value.int .i64) = KL at *
          go_wp2_with (first
            | (go_at_call 22; (with_reducible refine HFK.out.mono ?_); rintro e w4 ⟨rfl, hb4⟩; obtain ⟨hown4, hsz4, hnx4⟩ := HNX.out w4 hb4; have HO4 := Lib.hid hown4; have HN4 := Lib.hid hnx4; clear hb4 hown4 hnx4)
            | (at_builtin; go_must (refine wpList_append_own _ rfl _ _ 40 rfl w3.heap.size 3 i0 (.int .i64 0) 1 8 Tryd.underlying40 hi0 hz0 hz1 hz2 rfl (by decide) (.slice Av k cv) k KL rfl HO4.out ⟨w4.heap.size, 0, none⟩ 1 1 [.int .i64 y] rfl rfl (news1 _ _ _) (by simp [Value.oneCell']) (by unfold maxLen; omega) (by omega) (by simp; omega) ?_; intro v2 w5 hown2 hgrow2 _; obtain ⟨A5, c5, rfl, _⟩ := own_form hown2; have hp5 := HN4.out w5 _ hgrow2 hown2; have HP5 := Lib.hid hp5; clear hown2 hgrow2 hp5)))
          go_roundw
          case rel => exact ⟨k + 1, _, hlt, rfl, by go_num, by rw [HPE.out]; exact HP5⟩
          case measure => simp [intOf]; omega
        · obtain rfl : k = 1 := by omega
          obtain ⟨Av, cv, hv, _⟩ := own_form HS.out.2
          subst hv
          have HRI := Lib.hid (RI.of_own HS.out.2)
          have HBX := Lib.hid (bel0 HX.out HS.out.1)
          have HBW := Lib.hid (bel0 HB3.out HS.out.1)
          clear HS q0 q1 r0 r1 f0 f1
          obtain ⟨q0, q1, r0, r1, f0, f1⟩ := res_cells HBX.out
          have hzr := sz2 HBX.out
          go_wp2_with (go_at_call 38; (with_reducible refine (HCO.out _ _ _ HRI.out).mono ?_); rintro e w7 ⟨rfl, hb7⟩; clear q0 q1 r0 r1 f0 f1; obtain ⟨q0, q1, r0, r1, f0, f1⟩ := res_cells (bel0 HBX.out hb7); have hz7 := sz2 (bel0 HBX.out hb7); have HB7 := Lib.hid (bel0 HBW.out hb7); clear hb7)
          exact bodyPost_ret (v := .tuple #[.agg #[.int .i64 ck, .int .i64 cn], .int .i64 2]) (by simp [results, Tryd.results35, go_sem, r0, r1]) rfl ⟨rfl, res_below HB7.out⟩
  · by_cases h2 : hd0 g = 2
    · have hb5 : (hd0 g == 5) = false := by simp [h2]
      have hb2 : (hd0 g == 2) = true := by simp [h2]
      by_cases ht : t.length < 3
      · have HE : Hid (behindP (k0, n0) (g :: t) = ((k0, n0), n)) := Lib.hid (by simp only [behindP]; rw [if_neg h5, if_pos h2, if_pos ht, HN.out]; rfl)
        have hle : (n : Int) ≤ 3 := by have := HN.out; simp at this; omega
        unfold BehPost
        rw [HE.out]
        generalize hd0 g = v at *
        clear h5 h2 HE ht
        go_enter Tryd.func35, Tryd.ntmps35
        go_wp2_with (go_at_call 22; (with_reducible refine (HF0.out _ (belA (belA (Below.refl _ _) _) _)).mono ?_); rintro e w3 ⟨rfl, hb3⟩; obtain ⟨q0, q1, r0, r1, f0, f1⟩ := res_cells hb3; have hz3 := sz2 hb3; have HX := Lib.hid hb3; have HB3 := Lib.hid (bel2 (Below.refl _ _) hb3); have hcc3 := HC0.out _ HB3.out; clear hb3)
        exact bodyPost_ret (v := .tuple #[.agg #[.int .i64 k0, .int .i64 n0], .int .i64 n]) (by simp [results, Tryd.results35, go_sem, r0, r1]) rfl ⟨rfl, res_below HB3.out⟩
      · have HE : Hid (behindP (k0, n0) (g :: t) = (colorP (k0, n0) 2 ((t.take 3).map hd0), 4)) := Lib.hid (by simp only [behindP]; rw [if_neg h5, if_pos h2, if_neg ht])
        have hle : ¬ (n : Int) ≤ 3 := by have := HN.out; simp at this; omega
        have hle2 : (4 : Int) ≤ n := by omega
        have hle3 : (4 : Int) ≤ c := by omega
        have hc1 : 1 ≤ c := by omega
        have hcne : ¬ c = 1 := by omega
        have HROW : Hid (∀ k, k < 3 → ∃ Ai m ci, ∀ W, Below w.heap.size w W → W.cell? ⟨b, off + 1 + k, none⟩ = some (.slice Ai m ci) ∧ Calls Tryd.prog 22 #[.slice Ai m ci] W fun e w' => e = .returned (.int .i64 (hd0 (t[k]?.getD []))) ∧ Below W.heap.size W w') := Lib.hid fun k hk => by
          obtain ⟨Ai, ci, _, h⟩ := HG.out (1 + k) (by simp; omega)
          rw [show (g :: t)[1 + k]? = t[k]? by rw [Nat.add_comm]; rfl] at h
          refine ⟨Ai, (t[k]?.getD []).length, ci, fun W hW => ?_⟩
          rw [Nat.add_assoc]
          exact ⟨(h W hW).1, first_row ci (h W hW).2⟩
        have HCO : Hid (∀ W A c, RI W W.heap.size A ((t.take 3).map hd0) → Calls Tryd.prog 38 #[.agg #[.int .i64 k0, .int .i64 n0], .int .i64 2, .slice A 3 c] W fun e w' => e = .returned (.agg #[.int .i64 (colorP (k0, n0) 2 ((t.take 3).map hd0)).1, .int .i64 (colorP (k0, n0) 2 ((t.take 3).map hd0)).2]) ∧ Below W.heap.size W w') := Lib.hid fun W A c h => by
          have := colorOf_any k0 n0 2 A ((t.take 3).map hd0) 3 c (by simp; omega) (by omega) W h
          rw [colorP_eq (k0, n0)] at this
          exact this
        have HTK : Hid (∀ k, k < 3 → (t.take (k + 1)).map hd0 = (t.take k).map hd0 ++ [hd0 (t[k]?.getD [])]) := Lib.hid fun k hk => by rw [take_snocL t k [] (by omega), List.map_append]; rfl
        unfold BehPost
        rw [HE.out]
        generalize (colorP (k0, n0) 2 ((t.take 3).map hd0)).1 = ck at *
        generalize (colorP (k0, n0) 2 ((t.take 3).map hd0)).2 = cn at *
        generalize hd0 g = v at *
        clear h5 h2 HE ht HG HN
        go_enter Tryd.func35, Tryd.ntmps35
        go_upto_region 14 with (go_at_call 22; (with_reducible refine (HF0.out _ (belA (belA (Below.refl _ _) _) _)).mono ?_); rintro e w3 ⟨rfl, hb3⟩; obtain ⟨q0, q1, r0, r1, f0, f1⟩ := res_cells hb3; have hz3 := sz2 hb3; have HX := Lib.hid hb3; have HB3 := Lib.hid (bel2 (Below.refl _ _) hb3); have hcc3 := HC0.out _ HB3.out; clear hb3)
        go_loopw [8, 36] (fun s8 ii wr => ∃ (k : Nat) (v : Value), k ≤ 3 ∧ s8 = v ∧ ii = .int .i64 k ∧ Hid (Below w3.heap.size w3 wr ∧ wr.ownsRow w3.heap.size 3 1 v k (((t.take k).map hd0).map (Value.int .i64)))) (fun _ ii _ => 3 - (intOf ii).toNat)
        case atStart => exact ⟨0, _, Nat.zero_le _, rfl, rfl, Lib.hid ⟨Below.refl _ _, by simpa using World.ownsRow_nil w3 w3.heap.size 3 1⟩⟩
        case round =>
          obtain ⟨k, v, hk, rfl, rfl, HS⟩ := hrel
          by_cases hlt : k < 3
          · have hki : (k : Int) < 3 := by omega
            obtain ⟨Ai, m, ci, hrow⟩ := HROW.out k hlt
            have hcr := (hrow wr (bel0 HB3.out HS.out.1)).1
            have HFK := Lib.hid (hrow wr (bel0 HB3.out HS.out.1)).2
            obtain ⟨Av, cv, hv, _⟩ := own_form HS.out.2
            subst hv
            have HTN := Lib.hid (HTK.out k hlt)
            obtain ⟨PN, hPN⟩ : ∃ PN, (t.take (k + 1)).map hd0 = PN := ⟨_, rfl⟩
            rw [hPN] at HTN
            have HPE := Lib.hid hPN
            generalize hd0 (t[k]?.getD []) = y at *
            generalize (t.take k).map hd0 = PK at *
            have HNX : Hid (∀ w4, Below wr.heap.size wr w4 → (w4.alloc (.cells #[.int .i64 y] 3)).ownsRow w3.heap.size 3 1 (.slice Av k cv) k (PK.map (Value.int .i64)) ∧ w3.heap.size ≤ w4.heap.size ∧ ∀ w5 v2, (w4.alloc (.cells #[.int .i64 y] 3)).grownBy w5 (Value.slice Av k cv).ownBlock → w5.ownsRow w3.heap.size 3 1 v2 (k + 1) (PK.map (Value.int .i64) ++ [.int .i64 y]) → Below w3.heap.size w3 w5 ∧ w5.ownsRow w3.heap.size 3 1 v2 (k + 1) (PN.map (Value.int .i64))) := Lib.hid fun w4 hb4 => ⟨(own_past HS.out.2 hb4).alloc _, Nat.le_trans HS.out.1.size hb4.size, fun w5 v2 hg h2 => ⟨(belA (bel0 HS.out.1 hb4) _).grown hg (by have := HS.out.1.size; have := hb4.size; simp; omega) (fun j e => (HS.out.2.lt j e).1), by rw [HTN.out, List.map_append]; exact h2⟩⟩
            clear HS hPN hrow
            generalize PK.map (Value.int .i64) = KL at *
            go_wp2_with (first
              | (go_at_call 22; (with_reducible refine HFK.out.mono ?_); rintro e w4 ⟨rfl, hb4⟩; obtain ⟨hown4, hsz4, hnx4⟩ := HNX.out w4 hb4; have HO4 := Lib.hid hown4; have HN4 := Lib.hid hnx4; clear hb4 hown4 hnx4)
              | (at_builtin; go_must (refine wpList_append_own _ rfl _ _ 40 rfl w3.heap.size 3 i0 (.int .i64 0) 1 8 Tryd.underlying40 hi0 hz0 hz1 hz2 rfl (by decide) (.slice Av k cv) k KL rfl HO4.out ⟨w4.heap.size, 0, none⟩ 1 1 [.int .i64 y] rfl rfl (news1 _ _ _) (by simp [Value.oneCell']) (by unfold maxLen; omega) (by omega) (by simp; omega) ?_; intro v2 w5 hown2 hgrow2 _; obtain ⟨A5, c5, rfl, _⟩ := own_form hown2; have hp5 := HN4.out w5 _ hgrow2 hown2; have HP5 := Lib.hid hp5; clear hown2 hgrow2 hp5)))
            go_roundw
            case rel => exact ⟨k + 1, _, hlt, rfl, by go_num, by rw [HPE.out]; exact HP5⟩
            case measure => simp [intOf]; omega
          · obtain rfl : k = 3 := by omega
            obtain ⟨Av, cv, hv, _⟩ := own_form HS.out.2
            subst hv
            have HRI := Lib.hid (RI.of_own HS.out.2)
            have HBX := Lib.hid (bel0 HX.out HS.out.1)
            have HBW := Lib.hid (bel0 HB3.out HS.out.1)
            clear HS q0 q1 r0 r1 f0 f1
            obtain ⟨q0, q1, r0, r1, f0, f1⟩ := res_cells HBX.out
            have hzr := sz2 HBX.out
            go_wp2_with (go_at_call 38; (with_reducible refine (HCO.out _ _ _ HRI.out).mono ?_); rintro e w7 ⟨rfl, hb7⟩; clear q0 q1 r0 r1 f0 f1; obtain ⟨q0, q1, r0, r1, f0, f1⟩ := res_cells (bel0 HBX.out hb7); have hz7 := sz2 (bel0 HBX.out hb7); have HB7 := Lib.hid (bel0 HBW.out hb7); clear hb7)
            exact bodyPost_ret (v := .tuple #[.agg #[.int .i64 ck, .int .i64 cn], .int .i64 4]) (by simp [results, Tryd.results35, go_sem, r0, r1]) rfl ⟨rfl, res_below HB7.out⟩
    · have hb5 : (hd0 g == 5) = false := by simp [h5]
      have hb2 : (hd0 g == 2) = false := by simp [h2]
      have HE : Hid (behindP (k0, n0) (g :: t) = ((k0, n0), 1)) := Lib.hid (by simp only [behindP]; rw [if_neg h5, if_neg h2])
      unfold BehPost
      rw [HE.out]
      generalize hd0 g = v at *
      clear h5 h2 HE
      go_enter Tryd.func35, Tryd.ntmps35
      go_wp2_with (go_at_call 22; (with_reducible refine (HF0.out _ (belA (belA (Below.refl _ _) _) _)).mono ?_); rintro e w3 ⟨rfl, hb3⟩; obtain ⟨q0, q1, r0, r1, f0, f1⟩ := res_cells hb3; have hz3 := sz2 hb3; have HX := Lib.hid hb3; have HB3 := Lib.hid (bel2 (Below.refl _ _) hb3); have hcc3 := HC0.out _ HB3.out; clear hb3)
      exact bodyPost_ret (v := .tuple #[.agg #[.int .i64 k0, .int .i64 n0], .int .i64 1]) (by simp [results, Tryd.results35, go_sem, r0, r1]) rfl ⟨rfl, res_below HB3.out⟩

end Go.Proofs.YtlndmfbopopmmaaDoor
