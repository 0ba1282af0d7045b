/- The walk of the law WidthFits. -/
import Derived.Test.YtacmldggdacdpaaDoorWk
namespace Go.Proofs.YtacmldggdacdpaaDoor
open Go.RowKit Go.Shelf

theorem RS.take {w : World} {B : Nat} {A : Option Addr} {xs : List Int} (h : RS w B A xs) (m : Nat) : RS w B A (xs.take m) := fun hn => by
  have hx : xs ≠ [] := by rintro rfl; exact hn (by simp)
  obtain ⟨b, off, rfl, hb, hc⟩ := h hx
  refine ⟨b, off, rfl, hb, fun k hk => ?_⟩
  have hk' : k < m ∧ k < xs.length := by simp at hk; omega
  rw [List.getElem?_take, if_pos hk'.1]
  exact hc k hk'.2
theorem stL_cell {w : World} {B g c : Nat} {xs : List Int} (h : w.ownsRow B 3 1 (.slice (some ⟨g, 0, none⟩) (stL xs).length c) (stL xs).length ((stL xs).map encI)) (i : Nat) (hi : i < (stL xs).length) :
    w.cell? ⟨g, i, none⟩ = some (.int .i64 (sAt xs i)) := by
  rw [h.cellAt i (by omega), List.getElem?_map, List.getElem?_eq_getElem hi]
  unfold sAt
  rw [List.getElem?_eq_getElem hi]
  rfl
/-- What the law's loop has found behind k places, if j is the best one. -/
def wantAt (xs : List Int) (j k : Nat) : Nat := sAt xs (min (k - 1) j)

set_option maxHeartbeats 1000000 in
theorem widthFits_law (cols : Int) (A : Option Addr) (xs : List Int) (n c : Nat) (hn : n = xs.length) (hcap : n ≤ c) (hc63 : c ≤ 9223372036854775807) (w : World) (hT : WT w) (hR : RS w w.heap.size A xs) :
    Calls Tryd.prog 13 #[.int .i64 cols, .slice A n c] w fun e w' => e = .returned (.bool true) ∧ Below w.heap.size w w' := by
  have h3 : Hid (∀ W, Below w.heap.size w W → Calls Tryd.prog 31 #[] W fun e w' => e = .returned (.bool true) ∧ Below W.heap.size W w') := Lib.hid fun W hW => awake_any W (hT.below hW)
  by_cases h200 : 200 < n
  · clear hn
    go_enter Tryd.func13, Tryd.ntmps13
    go_wp2_with (go_at_call 31; refine (h3.out _ (Below.refl _ _)).mono ?_; rintro e w3 ⟨rfl, hb3⟩)
    go_ret
    exact ⟨rfl, hb3⟩
  · have HF : Hid (∀ W, Below w.heap.size w W → Calls Tryd.prog 36 #[.int .i64 cols, .slice A n c] W (FitPost cols xs W)) := Lib.hid fun W hW => fit_any cols A xs n c hn (by omega) hcap hc63 W (hT.below hW) ((hR.below hW).more hW.size)
    have HC : Hid (∀ W, Below w.heap.size w W → Calls Tryd.prog 35 #[.slice A n c] W (RcPost xs W)) := Lib.hid fun W hW => refClusters_any A xs n c hn (by omega) W ((hR.below hW).more hW.size)
    have HX : Hid (∀ W m, m ≤ n → Below w.heap.size w W → Calls Tryd.prog 33 #[.slice A m c] W fun e w' => e = .returned (.int .i64 (textZ (xs.take m))) ∧ Below W.heap.size W w') := Lib.hid fun W m hm hW =>
      refText_any A (xs.take m) m c (by simp; omega) (by omega) W (((hR.take m).below hW).more hW.size)
    have HN := Lib.hid hn
    clear hT hR hn
    by_cases hcols : 0 ≤ cols
    · obtain ⟨j, hj⟩ := best_ex cols hcols xs
      have HJ := Lib.hid hj
      clear hj
      go_enter Tryd.func13, Tryd.ntmps13
      go_wp2_with (first | (go_at_call 31; refine (h3.out _ (Below.refl _ _)).mono ?_; rintro e w1 ⟨rfl, hb1⟩) | (go_at_call 35; refine (HC.out _ hb1).mono ?_; rintro e w2 ⟨v, rfl, ho, hb2⟩))
      obtain ⟨g, cc, rfl⟩ := ownsRow_succ' (by rw [stL_len]; omega) ho
      have HO := Lib.hid ho
      have HL : Hid ((stL xs).length = (pairs xs).length + 1) := Lib.hid (stL_len xs)
      have HB2 := Lib.hid (hb1.trans (hb2.mono hb1.size))
      have hg : g < w2.heap.size := (ho.lt g rfl).2
      clear ho hb1 hb2
      have hsl : (stL xs).length ≤ 9223372036854775807 := by
        have h1 := stL_len xs
        have h2 := stK_len xs xs.length
        unfold stL
        have := HN.out
        simp; omega
      generalize hsn : (stL xs).length = sn at *
      have HSN := Lib.hid hsn
      clear hsn
      go_loopw [5, 7] (fun v i wr => ∃ k : Nat, k ≤ sn ∧ i = .int .i64 k ∧ v = .int .i64 (wantAt xs j k) ∧ Hid (Below w2.heap.size w2 wr)) (fun _ i _ => sn - (intOf i).toNat)
      case atStart => exact ⟨0, Nat.zero_le _, rfl, by unfold wantAt; rw [show min (0 - 1) j = 0 by omega, sAt_zero]; rfl, Lib.hid (Below.refl _ _)⟩
      case round =>
        obtain ⟨k, hk, rfl, rfl, hB⟩ := hrel
        by_cases hlt : k < sn
        · have hck : wr.cell? ⟨g, k, none⟩ = some (.int .i64 (sAt xs k)) := (hB.out.cell (p := ⟨g, k, none⟩) hg).trans (by
            have ho := HO.out
            rw [← HSN.out] at ho
            exact stL_cell ho k (by rw [HSN.out]; exact hlt))
          have hsn : sAt xs k ≤ n := by have := sAt_le xs k; have := HN.out; omega
          have hsc : sAt xs k ≤ c := by omega
          have hXk := HX.out wr (sAt xs k) hsn (HB2.out.trans (hB.out.mono HB2.out.size))
          have HG : Hid (∀ W, Below wr.heap.size wr W → W.cell? ⟨g, k, none⟩ = some (.int .i64 (sAt xs k))) := Lib.hid fun W hW => (hW.cell (p := ⟨g, k, none⟩) (Nat.lt_of_lt_of_le hg hB.out.size)).trans hck
          have hki : (k : Int) < sn := by omega
          by_cases hkj : k ≤ j
          · have HW : Hid (wantAt xs j (k + 1) = sAt xs k) := Lib.hid (by unfold wantAt; rw [show min (k + 1 - 1) j = k by omega])
            have hle : textZ (xs.take (sAt xs k)) ≤ cols := HJ.out.2.1 k hkj
            generalize textZ (xs.take (sAt xs k)) = t at *
            generalize sAt xs k = m at *
            generalize wantAt xs j k = wn at *
            go_wp2_with (go_at_call 33; refine hXk.mono ?_; clear hXk; rintro e w5 ⟨rfl, hb5⟩; have hg5 := HG.out _ hb5; have HB5 : Hid (Below w2.heap.size w2 w5) := Lib.hid (hB.out.trans (hb5.mono hB.out.size)); clear hb5)
            go_roundw
            case rel => exact ⟨k + 1, hlt, by go_num, by rw [HW.out], HB5⟩
            case measure => simp [intOf]; omega
          · have HW : Hid (wantAt xs j (k + 1) = wantAt xs j k) := Lib.hid (by unfold wantAt; rw [show min (k + 1 - 1) j = j by omega, show min (k - 1) j = j by omega])
            have hlt' : cols < textZ (xs.take (sAt xs k)) := HJ.out.2.2 k (by omega) (by have := HL.out; omega)
            generalize textZ (xs.take (sAt xs k)) = t at *
            generalize sAt xs k = m at *
            generalize hwn : wantAt xs j k = wn at *
            have HWN := Lib.hid hwn
            clear hwn
            go_wp2_with (go_at_call 33; refine hXk.mono ?_; clear hXk; rintro e w5 ⟨rfl, hb5⟩; have HB5 : Hid (Below w2.heap.size w2 w5) := Lib.hid (hB.out.trans (hb5.mono hB.out.size)); clear hb5)
            go_roundw
            case rel => exact ⟨k + 1, hlt, by go_num, by rw [HW.out], HB5⟩
            case measure => simp [intOf]; omega
        · obtain rfl : k = sn := by omega
          have HWF : Hid (∀ N, FitIs cols xs N → (N : Int) = wantAt xs j k) := Lib.hid fun N hF => by
            have := fit_best hF HJ.out
            have h1 := HL.out
            have h2 := HJ.out.1
            unfold wantAt
            rw [show min (k - 1) j = j by omega, this]
          have HBF : Hid (Below w.heap.size w wr) := Lib.hid (HB2.out.trans (hB.out.mono HB2.out.size))
          generalize wantAt xs j k = wn at *
          go_wp2_with (go_at_call 36; refine (HF.out _ HBF.out).mono ?_; rintro e w6 ⟨N, rfl, hFN, hb6⟩; have HNW := Lib.hid (HWF.out N hFN); clear hFN; have hNW : ((N : Int) == wn) = true := beq_iff_eq.2 HNW.out; have HB6 := Lib.hid (HBF.out.trans (hb6.mono HBF.out.size)); clear hb6)
          go_ret
          exact ⟨rfl, HB6.out⟩
    · have hcols' : cols < 0 := by omega
      have HWF : Hid (∀ N, FitIs cols xs N → N = 0) := Lib.hid fun N hF => fit_neg hF hcols'
      go_enter Tryd.func13, Tryd.ntmps13
      go_wp2_with (first | (go_at_call 31; refine (h3.out _ (Below.refl _ _)).mono ?_; rintro e w1 ⟨rfl, hb1⟩) | (go_at_call 35; refine (HC.out _ hb1).mono ?_; rintro e w2 ⟨v, rfl, ho, hb2⟩))
      obtain ⟨g, cc, rfl⟩ := ownsRow_succ' (by rw [stL_len]; omega) ho
      have HB2 := Lib.hid (hb1.trans (hb2.mono hb1.size))
      have hpos : 0 < (stL xs).length := by rw [stL_len]; omega
      clear ho hb1 hb2
      generalize (stL xs).length = sn at *
      go_loopw [5, 7] (fun v i wr => i = .int .i64 0 ∧ v = .int .i64 0 ∧ wr = w2) (fun _ _ _ => 0)
      case atStart => exact ⟨rfl, rfl, rfl⟩
      case round =>
        obtain ⟨rfl, rfl, rfl⟩ := hrel
        go_wp2_with (go_at_call 36; refine (HF.out _ HB2.out).mono ?_; rintro e w6 ⟨N, rfl, hFN, hb6⟩; obtain rfl := HWF.out N hFN; clear hFN; have HB6 := Lib.hid (HB2.out.trans (hb6.mono HB2.out.size)); clear hb6)
        go_ret
        exact ⟨rfl, HB6.out⟩

end Go.Proofs.YtacmldggdacdpaaDoor
