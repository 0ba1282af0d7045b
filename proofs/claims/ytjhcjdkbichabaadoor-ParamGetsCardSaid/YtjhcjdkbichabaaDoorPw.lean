/- The walk of the law ParamGets. -/
import Derived.Test.YtjhcjdkbichabaaDoorPv
import Derived.Test.YtjhcjdkbichabaaDoorPp
import Derived.BigQuiet
namespace Go.Proofs.YtjhcjdkbichabaaDoor
open Go.RowKit

def hdV (L : List (List Int)) (k : Nat) : Int := (L[k]?.getD []).headD 0
theorem gotV_out (i u : Int) (L : List (List Int)) (h : i < 0 ∨ (L.length : Int) ≤ i) : gotV i u L = u := by
  unfold gotV
  by_cases h0 : i < 0
  · rw [if_pos h0]
  · rw [if_neg h0, List.getElem?_eq_none (by omega)]
theorem gotV_in (k : Nat) (u : Int) (L : List (List Int)) (hk : k < L.length) (hne : L[k]?.getD [] ≠ []) : gotV (k : Int) u L = if hdV L k = -1 then u else hdV L k := by
  unfold gotV hdV
  rw [if_neg (by omega), Int.toNat_natCast]
  rw [List.getElem?_eq_getElem hk] at hne ⊢
  rw [Option.getD_some] at hne ⊢
  cases h : L[k] with
  | nil => exact absurd h hne
  | cons v r => rfl
theorem clean_ge (l : List (List Int)) (k : Nat) : -1 ≤ hdV (cleanL l) k := by
  unfold hdV
  cases h : (cleanL l)[k]? with
  | none => simp
  | some r =>
    have hm := List.mem_of_getElem? h
    unfold cleanL at hm
    split at hm
    · simp at hm
      subst hm
      simp
    · obtain ⟨g, _, rfl⟩ := List.mem_map.1 hm
      unfold rowZ
      split
      · simp
      · cases g with
        | nil => simp
        | cons a t => simp [clampV]; omega
/-- What the rows read as. -/
def HeadsAt (w : World) (b off n : Nat) (hd : Nat → Int) : Prop :=
  ∀ W, Below w.heap.size w W → ∀ k, k < n → ∃ br offr ci m, W.cell? ⟨b, off + k, none⟩ = some (.slice (some ⟨br, offr, none⟩) m ci) ∧ 0 < m ∧ m ≤ 8 ∧ W.cell? ⟨br, offr, none⟩ = some (.int .i64 (hd k))
theorem heads_at {w : World} {A : Option Addr} {L : List (List Int)} (h : RG w w.heap.size A L) (hne : L ≠ []) (hr : ∀ r ∈ L, 1 ≤ r.length ∧ r.length ≤ 8) : ∃ b off, A = some ⟨b, off, none⟩ ∧ HeadsAt w b off L.length (hdV L) := by
  obtain ⟨b, off, rfl, hb, hc⟩ := h hne
  refine ⟨b, off, rfl, fun W hW k hk => ?_⟩
  obtain ⟨Ai, ci, h1, h2, h3⟩ := hc k hk
  have hl := hr (L[k]?.getD []) (by rw [List.getElem?_eq_getElem hk]; exact List.getElem_mem hk)
  have hne2 : L[k]?.getD [] ≠ [] := fun e => by rw [e] at hl; simp at hl
  obtain ⟨br, offr, rfl, hbr, hcr⟩ := h2 hne2
  refine ⟨br, offr, ci, (L[k]?.getD []).length, (hW.cell (p := ⟨b, off + k, none⟩) hb).trans h1, by omega, by omega, ?_⟩
  have h0 := hcr 0 (by omega)
  rw [Nat.add_zero] at h0
  rw [hW.cell (p := ⟨br, offr, none⟩) hbr, h0]
  unfold hdV
  cases L[k]?.getD [] <;> rfl

set_option maxRecDepth 100000 in
set_option maxHeartbeats 8000000 in
theorem paramGets_law (A : Option Addr) (l : List (List Int)) (n cp : Nat) (i u : Int) (hn : n = l.length) (hcap : n ≤ cp) (w : World) (hT : PT w) (hR : RG w w.heap.size A l) :
    Calls Tryd.prog 6 #[.slice A n cp, .int .i64 i, .int .i64 u] w fun e w' => e = .returned (.bool true) ∧ Below w.heap.size w w' := by
  have HA : Hid (∀ W, Below w.heap.size w W → Calls Tryd.prog 8 #[] W fun e w' => e = .returned (.bool true) ∧ Below W.heap.size W w') := Lib.hid fun W hW => awake_any W (hT.below hW)
  have HG := Lib.hid (great_any A l n cp hn w hR)
  cases hg : greatB l with
  | true =>
    rw [hg] at HG
    clear hT hR hg hn
    go_enter Tryd.func6, Tryd.ntmps6
    go_wp2_with (first
      | (go_at_call 12; (with_reducible refine HG.out.mono ?_); rintro e w' ⟨rfl, rfl⟩)
      | (go_at_call 8; (with_reducible refine (HA.out _ (Below.refl _ _)).mono ?_); rintro e w2 ⟨rfl, hb2⟩))
    go_ret
    exact ⟨rfl, hb2⟩
  | false =>
    rw [hg] at HG
    obtain ⟨i0, hi0, hz0, hz1, hz2⟩ := info_parts Tryd.infoInt
    obtain ⟨h60, h20⟩ := great_no hg
    have hrow : ∀ r ∈ l, r.length ≤ 1000 := fun r hr => by have := h20 r hr; omega
    have HR2 : ∀ W, Below w.heap.size w W → RG W W.heap.size A l := fun W hW => (hR.below hW).more hW.size
    have HGET : Hid (∀ W, Below w.heap.size w W → Calls Tryd.prog 17 #[.slice A n cp, .int .i64 i, .int .i64 u] W fun e w' => e = .returned (.int .i64 (gotV i u (cleanL l))) ∧ Below W.heap.size W w') := Lib.hid fun W hW => get_any i u A l n cp hn hcap (by omega) hrow W (HR2 W hW)
    have HCNT : Hid (∀ W, Below w.heap.size w W → Calls Tryd.prog 18 #[.slice A n cp, .int .i64 i] W fun e w' => e = .returned (.int .i64 (max (gotV i 1 (cleanL l)) 1)) ∧ Below W.heap.size W w') := Lib.hid fun W hW => count_any i A l n cp hn hcap (by omega) hrow W (HR2 W hW)
    have HFLT : Hid (∀ W, Below w.heap.size w W → Calls Tryd.prog 20 #[.slice A n cp] W fun e w' => ∃ A c, e = .returned (.slice A (cleanL l).length c) ∧ RI w' w'.heap.size A ((cleanL l).map headV) ∧ Below W.heap.size W w') := Lib.hid fun W hW => flat_any A l n cp hn hcap (by omega) hrow W (HR2 W hW)
    have HD : Hid (∀ W, Below w.heap.size w W → Calls Tryd.prog 14 #[.slice A n cp] W (RowsPost (cleanL l) W)) := Lib.hid fun W hW => refClean_any A l n cp hn (by omega) hrow W (HR2 W hW)
    have hlen := cleanL_len l
    have hrows := cleanL_rows l
    have hge := clean_ge l
    clear hT hR hg hn h60 h20 hrow HR2 hcap
    generalize cleanL l = L at *
    have HHEAD : Hid (∀ W A, RG W W.heap.size A L → ∃ b off, A = some ⟨b, off, none⟩ ∧ HeadsAt W b off L.length (hdV L)) := Lib.hid fun W A h => heads_at h (fun e => by rw [e] at hlen; simp at hlen) hrows
    have hgot : ∃ B : Bool, ((i < 0 ∨ (L.length : Int) ≤ i) ∧ gotV i u L = u ∧ gotV i 1 L = 1 ∧ B = false) ∨ ∃ k : Nat, k < L.length ∧ i = k ∧ (0 ≤ hdV L k ∧ gotV i u L = hdV L k ∧ gotV i 1 L = hdV L k ∧ B = true ∨ hdV L k < 0 ∧ gotV i u L = u ∧ gotV i 1 L = 1 ∧ B = false) := by
      by_cases h : i < 0 ∨ (L.length : Int) ≤ i
      · exact ⟨false, .inl ⟨h, gotV_out _ _ _ h, gotV_out _ _ _ h, rfl⟩⟩
      · obtain ⟨k, rfl⟩ := Int.eq_ofNat_of_zero_le (show 0 ≤ i by omega)
        have hk : k < L.length := by omega
        have hne : L[k]?.getD [] ≠ [] := fun e => by
          have := hrows (L[k]?.getD []) (by rw [List.getElem?_eq_getElem hk]; exact List.getElem_mem hk)
          rw [e] at this
          simp at this
        rw [gotV_in k u L hk hne, gotV_in k 1 L hk hne]
        have := hge k
        by_cases h1 : hdV L k = -1
        · rw [if_pos h1, if_pos h1]; exact ⟨false, .inr ⟨k, hk, rfl, .inr ⟨by omega, rfl, rfl, rfl⟩⟩⟩
        · rw [if_neg h1, if_neg h1]; exact ⟨true, .inr ⟨k, hk, rfl, .inl ⟨by omega, rfl, rfl, rfl⟩⟩⟩
    obtain ⟨B, hgot⟩ := hgot
    have hC0 : 0 ≤ gotV i 1 L := by
      rcases hgot with ⟨_, _, h, _⟩ | ⟨k, _, _, ⟨_, _, h, _⟩ | ⟨_, _, h, _⟩⟩ <;> omega
    generalize gotV i u L = G at *
    generalize gotV i 1 L = C at *
    have HGOT := Lib.hid hgot
    have HMAP : Hid (∀ k, k ≤ L.length → (L.take k).map headV = (List.range k).map fun j => max (hdV L j) 0) := Lib.hid fun k hk => by
      apply List.ext_getElem?
      intro j
      rw [List.getElem?_map, List.getElem?_take, List.getElem?_map]
      by_cases hj : j < k
      · rw [if_pos hj, List.getElem?_range hj, List.getElem?_eq_getElem (by omega)]
        simp only [Option.map_some, hdV, headV]
        rw [List.getElem?_eq_getElem (by omega), Option.getD_some]
      · rw [if_neg hj, List.getElem?_eq_none (by simp; omega)]
        rfl
    have HFIN : Hid ((List.range L.length).map (fun j => max (hdV L j) 0) = L.map headV) := Lib.hid (by rw [← HMAP.out _ (Nat.le_refl _), List.take_length])
    have HINT : Hid (∀ W A A' c c', RI W W.heap.size A (L.map headV) → RI W W.heap.size A' (L.map headV) → Calls Tryd.prog 19 #[.slice A L.length c, .slice A' L.length c'] W fun e w' => e = .returned (.bool true) ∧ Below W.heap.size W w') := Lib.hid fun W A A' c c' h1 h2 => by
      refine (ints_any A A' (L.map headV) (L.map headV) _ _ c c' (by simp) (by simp) (by omega) W h1 h2).mono ?_
      rintro e w' h
      rw [show intsB (L.map headV) (L.map headV) = true from decide_eq_true rfl] at h
      exact h
    clear hgot hge hrows HMAP
    generalize L.map headV = F at *
    generalize hdV L = hd at *
    unfold RowsPost at HD
    have hm32 := hlen.2
    generalize L.length = m at *
    go_enter Tryd.func6, Tryd.ntmps6
    go_upto_region 5 with (first
      | (go_at_call 12; (with_reducible refine HG.out.mono ?_); rintro e w' ⟨rfl, rfl⟩)
      | (go_at_call 14; (with_reducible refine (HD.out _ (Below.refl _ _)).mono ?_); rintro e w3 ⟨A3, c3, rfl, _, hr3, hb3⟩; have HR3 := Lib.hid hr3; have HB3 := Lib.hid hb3; clear hr3 hb3))
    obtain ⟨b, off, rfl, hheads⟩ := HHEAD.out w3 A3 HR3.out
    have HH := Lib.hid hheads
    clear hheads HHEAD
    go_cut [35] (fun s35 wx => s35 = .bool B ∧ w3 = wx)
    case first =>
      rcases HGOT.out with ⟨hout, hg1, hg2, hB⟩ | ⟨k, hk, hik, hv⟩
      · subst hB
        rcases hout with hlt | hge
        · have hd1 : decide (i ≥ 0) = false := decide_eq_false (by omega)
          clear hg1 hg2
          go_wp2
          all_goals
            go_meet
            exact ⟨rfl, rfl⟩
        · have hd1 : decide (i ≥ 0) = true := decide_eq_true (by omega)
          have hd2 : decide (i < (m : Int)) = false := decide_eq_false (by omega)
          clear hg1 hg2
          go_wp2
          all_goals
            go_meet
            exact ⟨rfl, rfl⟩
      · subst hik
        obtain ⟨br, offr, ci, mr, hc1, hm0, hm8, hc2⟩ := HH.out w3 (Below.refl _ _) k hk
        have hkm : (k : Int) < m := by omega
        have hk0 : (k : Int) ≥ 0 := by omega
        have hkN : k < m := by omega
        have hmr : (0 : Int) < mr := by omega
        rcases hv with ⟨h0, hg1, hg2, hB⟩ | ⟨h0, hg1, hg2, hB⟩
        · subst hB
          clear hg1 hg2
          generalize hd k = h at *
          have hd0 : decide (h ≥ 0) = true := decide_eq_true h0
          go_wp2
          all_goals
            go_meet
            exact ⟨rfl, rfl⟩
        · subst hB
          clear hg1 hg2
          generalize hd k = h at *
          have hd0 : decide (h ≥ 0) = false := decide_eq_false (by omega)
          go_wp2
          all_goals
            go_meet
            exact ⟨rfl, rfl⟩
    case rest =>
    obtain ⟨rfl, rfl⟩ := hcut
    go_upto_if 35 with fail
    go_cut [8, 9] (fun s8 s9 wx => s8 = .int .i64 G ∧ s9 = .int .i64 C ∧ Hid (Below w3.heap.size w3 wx))
    case first =>
      clear HD HGET HCNT HFLT HINT
      cases B with
      | false =>
        have hg : G = u ∧ C = 1 := by
          rcases HGOT.out with ⟨_, h1, h2, _⟩ | ⟨k, _, _, ⟨_, _, _, h⟩ | ⟨_, h1, h2, _⟩⟩
          · exact ⟨h1, h2⟩
          · simp at h
          · exact ⟨h1, h2⟩
        obtain ⟨hg1, hg2⟩ := hg
        subst hg1
        subst hg2
        go_wp2
        go_meet
        exact ⟨rfl, rfl, Lib.hid (Below.refl _ _)⟩
      | true =>
        have hg : ∃ k : Nat, k < m ∧ i = k ∧ G = hd k ∧ C = hd k := by
          rcases HGOT.out with ⟨_, _, _, h⟩ | ⟨k, h1, h2, ⟨_, h3, h4, _⟩ | ⟨_, _, _, h⟩⟩
          · simp at h
          · exact ⟨k, h1, h2, h3, h4⟩
          · simp at h
        obtain ⟨k, hk, hik, hg1, hg2⟩ := hg
        subst hik
        obtain ⟨br, offr, ci, mr, hc1, hm0, hm8, hc2⟩ := HH.out w3 (Below.refl _ _) k hk
        have hkm : (k : Int) < m := by omega
        have hkN : k < m := by omega
        have hmr : (0 : Int) < mr := by omega
        subst hg1
        subst hg2
        generalize hd k = h at *
        go_wp2
        go_quiet (fail)
        go_wp2
        go_meet
        exact ⟨rfl, rfl, Lib.hid (below_drewN (Below.refl _ _) _)⟩
    case rest =>
      obtain ⟨rfl, rfl, hbx⟩ := hcut
      have HB := Lib.hid (bel0 HB3.out hbx.out)
      have HHX : Hid (∀ W, Below wc.heap.size wc W → _) := Lib.hid fun W hW => HH.out W (bel0 hbx.out hW)
      clear HH HB3 HR3 hbx HGOT
      obtain ⟨y, hy⟩ : ∃ y, max C 1 = y := ⟨_, rfl⟩
      rw [hy] at HCNT
      go_upto_if 49 with fail
      go_cut [9] (fun s9 wx => s9 = .int .i64 y ∧ wc = wx)
      case first =>
        by_cases hc : C = 0
        · obtain rfl : y = 1 := by omega
          subst hc
          go_wp2
          go_meet
          exact ⟨rfl, rfl⟩
        · obtain rfl : C = y := by omega
          have hb : (C == 0) = false := by simp [hc]
          go_wp2
          go_meet
          exact ⟨rfl, rfl⟩
      case rest =>
        obtain ⟨rfl, rfl⟩ := hcut
        go_wp2
        go_loopw [10, 11] (fun s10 ii wr => ∃ (k : Nat) (v : Value), k ≤ m ∧ s10 = v ∧ ii = .int .i64 k ∧ Hid (Below wc.heap.size wc wr ∧ wr.ownsRow wc.heap.size 3 1 v k (((List.range k).map fun j => max (hd j) 0).map (Value.int .i64)))) (fun _ ii _ => m - (intOf ii).toNat)
        case atStart => exact ⟨0, _, Nat.zero_le _, rfl, rfl, Lib.hid ⟨Below.refl _ _, World.ownsRow_nil _ _ _ _⟩⟩
        case round =>
          obtain ⟨k, v, hk, rfl, rfl, HS⟩ := hrel
          by_cases hlt : k < m
          · have hkm : (k : Int) < m := by omega
            obtain ⟨br, offr, ci, mr, hc1, hm0, hm8, hc2⟩ := HHX.out wr HS.out.1 k (by omega)
            have hmr : (0 : Int) < mr := by omega
            have hsz := HS.out.1.size
            obtain ⟨Av, cv, hv, _⟩ := own_form HS.out.2
            subst hv
            have HOWN : Hid (∀ b, (wr.alloc b).ownsRow wc.heap.size 3 1 (.slice Av k cv) k (((List.range k).map fun j => max (hd j) 0).map (Value.int .i64))) := Lib.hid fun b => HS.out.2.alloc _
            have HNX : Hid (∀ w5 v2, (wr.alloc (.cells #[.int .i64 (max (hd k) 0)] 3)).grownBy w5 (Value.slice Av k cv).ownBlock → w5.ownsRow wc.heap.size 3 1 v2 (k + 1) (((List.range k).map fun j => max (hd j) 0).map (Value.int .i64) ++ [.int .i64 (max (hd k) 0)]) → Below wc.heap.size wc w5 ∧ w5.ownsRow wc.heap.size 3 1 v2 (k + 1) (((List.range (k + 1)).map fun j => max (hd j) 0).map (Value.int .i64))) := Lib.hid fun w5 v2 hg h2 => ⟨(belA HS.out.1 _).grown hg (by simp; omega) (fun j e => (HS.out.2.lt j e).1), by rw [List.range_succ, List.map_append, List.map_append]; exact h2⟩
            clear HS
            generalize ((List.range k).map fun j => max (hd j) 0).map (Value.int .i64) = KL at *
            generalize hd k = h at *
            obtain ⟨y2, hy2⟩ : ∃ y2, max h 0 = y2 := ⟨_, rfl⟩
            rw [hy2] at HNX
            by_cases h0 : h < 0
            · obtain rfl : 0 = y2 := by omega
              go_wp2_with (at_builtin; go_must (refine wpList_append_own _ rfl _ _ 31 rfl wc.heap.size 3 i0 (.int .i64 0) 1 8 Tryd.underlying31 hi0 hz0 hz1 hz2 rfl (by decide) (.slice Av k cv) k KL rfl (HOWN.out _) ⟨wr.heap.size, 0, none⟩ 1 1 [.int .i64 0] rfl rfl (news1 _ _ _) (by simp [Value.oneCell']) (by unfold maxLen; omega) (by omega) (by simp; omega) ?_; intro v2 w5 hown2 hgrow2 _; obtain ⟨A5, c5, rfl, _⟩ := own_form hown2; have hp5 := HNX.out w5 _ hgrow2 hown2; have HP5 := Lib.hid hp5; clear hown2 hgrow2 hp5))
              go_roundw
              case rel => exact ⟨k + 1, _, hlt, rfl, by go_num, HP5⟩
              case measure => simp [intOf]; omega

            · obtain rfl : h = y2 := by omega
              go_wp2_with (at_builtin; go_must (refine wpList_append_own _ rfl _ _ 31 rfl wc.heap.size 3 i0 (.int .i64 0) 1 8 Tryd.underlying31 hi0 hz0 hz1 hz2 rfl (by decide) (.slice Av k cv) k KL rfl (HOWN.out _) ⟨wr.heap.size, 0, none⟩ 1 1 [.int .i64 h] rfl rfl (news1 _ _ _) (by simp [Value.oneCell']) (by unfold maxLen; omega) (by omega) (by simp; omega) ?_; intro v2 w5 hown2 hgrow2 _; obtain ⟨A5, c5, rfl, _⟩ := own_form hown2; have hp5 := HNX.out w5 _ hgrow2 hown2; have HP5 := Lib.hid hp5; clear hown2 hgrow2 hp5))
              go_roundw
              case rel => exact ⟨k + 1, _, hlt, rfl, by go_num, HP5⟩
              case measure => simp [intOf]; omega

          · obtain rfl : k = m := by omega
            obtain ⟨Av, cv, hv, _⟩ := own_form HS.out.2
            subst hv
            have HRI : Hid (RI wr wr.heap.size Av F) := Lib.hid (RI.of_own (by rw [← HFIN.out]; exact HS.out.2))
            have HBW := Lib.hid (bel0 HB.out HS.out.1)
            clear HS HHX HFIN
            go_wp2_with (first
              | (go_at_call 17; (with_reducible refine (HGET.out _ HBW.out).mono ?_); rintro e w4 ⟨rfl, hb4⟩; have HR4 := Lib.hid (HRI.out.past hb4); have HB4 := Lib.hid (bel0 HBW.out hb4); clear hb4)
              | (go_at_call 18; (with_reducible refine (HCNT.out _ HB4.out).mono ?_); rintro e w5 ⟨rfl, hb5⟩; have HR5 := Lib.hid (HR4.out.past hb5); have HB5 := Lib.hid (bel0 HB4.out hb5); clear hb5)
              | (go_at_call 20; (with_reducible refine (HFLT.out _ HB5.out).mono ?_); rintro e w6 ⟨A6, c6, rfl, hr6, hb6⟩; have HR6 := Lib.hid (HR5.out.past hb6); have HF6 := Lib.hid hr6; have HB6 := Lib.hid (bel0 HB5.out hb6); clear hr6 hb6)
              | (go_at_call 19; (with_reducible refine (HINT.out _ _ _ _ _ HF6.out HR6.out).mono ?_); rintro e w7 ⟨rfl, hb7⟩; have HB7 := Lib.hid (bel0 HB6.out hb7); clear hb7)
              | (go_at_call 8; (with_reducible refine (HA.out _ HB7.out).mono ?_); rintro e w8 ⟨rfl, hb8⟩; have HB8 := Lib.hid (bel0 HB7.out hb8); clear hb8))
            go_ret
            exact ⟨rfl, HB8.out⟩

end Go.Proofs.YtjhcjdkbichabaaDoor
