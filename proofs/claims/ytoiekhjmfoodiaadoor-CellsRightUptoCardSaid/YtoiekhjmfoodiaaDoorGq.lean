/- The walk of the document's Erase, of a row that is not empty. -/
import Derived.Test.YtoiekhjmfoodiaaDoorGp
namespace Go.Proofs.YtoiekhjmfoodiaaDoor
open Go.RowKit

/-- The row so far: blanks between two places. -/
def eraseTo (L : List CC) (z1 z2 : Int) (x : CC) : Nat → List CC
  | 0 => L
  | i + 1 => if z1 ≤ i ∧ (i : Int) < z2 then (eraseTo L z1 z2 x i).set i x else eraseTo L z1 z2 x i
theorem eraseTo_len (L : List CC) (z1 z2 : Int) (x : CC) : ∀ i, (eraseTo L z1 z2 x i).length = L.length
  | 0 => rfl
  | i + 1 => by
    unfold eraseTo
    split
    · rw [List.length_set, eraseTo_len L z1 z2 x i]
    · exact eraseTo_len L z1 z2 x i
theorem MC.rc {w : World} {g : Nat} {l : List CC} (h : MC w g l) : RC w w.heap.size (some ⟨g, 0, none⟩) l := fun _ => ⟨g, 0, rfl, h.lt, fun k hk => by rw [Nat.zero_add]; exact h.at' k hk⟩
set_option maxRecDepth 100000 in
set_option maxHeartbeats 4000000 in
theorem refErase_pos (A : Option Addr) (l : List CC) (n c : Nat) (z1 z2 bk bn : Int) (hn : n = l.length) (hn0 : 0 < n) (hl : n ≤ 1000) (w : World) (h : RC w w.heap.size A l) :
    Calls Tryd.prog 43 #[.slice A n c, .int .i64 z1, .int .i64 z2, .agg #[.int .i64 bk, .int .i64 bn]] w fun e w' => ∃ v, e = .returned v ∧ OC w.heap.size w' v (mendL (eraseTo (mendL l) z1 z2 (blankC bk bn) n)) ∧ Below w.heap.size w w' := by
  have hb1 := belA (Below.refl w.heap.size w) (.cells #[.int .i64 bk, .int .i64 bn] 32)
  have HM := Lib.hid (refMend_any A l n c hn hl _ (h.past hb1))
  have HB0 := Lib.hid hb1
  have HX0 := Lib.hid (heap_alloc_new w (.cells #[.int .i64 bk, .int .i64 bn] 32))
  have hs0 : (w.alloc (.cells #[.int .i64 bk, .int .i64 bn] 32)).heap.size = w.heap.size + 1 := by simp
  have hlen : (mendL l).length = n := by rw [mendL_len, hn]
  have HF : Hid (∀ W v B, OC B W v (mendL l) → ∃ g c', v = .slice (some ⟨g, 0, none⟩) n c' ∧ B ≤ g ∧ n ≤ c' ∧ MC W g (mendL l)) := Lib.hid fun W v B ho => by
    obtain ⟨g, c', e, h1, h2, h3⟩ := ho.some (by omega)
    exact ⟨g, c', by rw [e, hlen], h1, by omega, h3⟩
  have HK := Lib.hid (refBlank_any bk bn)
  have HL := Lib.hid (eraseTo_len (mendL l) z1 z2 (blankC bk bn))
  have HLN := Lib.hid hlen
  have HE : Hid (∀ W g c', MC W g (eraseTo (mendL l) z1 z2 (blankC bk bn) n) → Calls Tryd.prog 13 #[.slice (some ⟨g, 0, none⟩) n c'] W fun e w' => ∃ v, e = .returned v ∧ OC W.heap.size w' v (mendL (eraseTo (mendL l) z1 z2 (blankC bk bn) n)) ∧ Below W.heap.size W w') := Lib.hid fun W g c' hm => refMend_any _ _ n c' (by rw [eraseTo_len, hlen]) hl W hm.rc
  have HST : Hid (∀ i : Nat, (z1 ≤ i ∧ (i : Int) < z2 → eraseTo (mendL l) z1 z2 (blankC bk bn) (i + 1) = (eraseTo (mendL l) z1 z2 (blankC bk bn) i).set i (blankC bk bn)) ∧ (¬ (z1 ≤ i ∧ (i : Int) < z2) → eraseTo (mendL l) z1 z2 (blankC bk bn) (i + 1) = eraseTo (mendL l) z1 z2 (blankC bk bn) i)) := Lib.hid fun i => ⟨fun h => if_pos h, fun h => if_neg h⟩
  have HS0 : Hid (eraseTo (mendL l) z1 z2 (blankC bk bn) 0 = mendL l) := Lib.hid rfl
  clear h hb1 hlen hn
  generalize eraseTo (mendL l) z1 z2 (blankC bk bn) = ET at *
  generalize mendL l = l1 at *
  go_enter Tryd.func43, Tryd.ntmps43
  go_wp2_with (go_at_call 13; (with_reducible refine (HM.out).mono ?_); rintro e w1 ⟨v, rfl, ho, hb⟩; obtain ⟨g, c', rfl, hg, hc', hm⟩ := HF.out _ _ _ ho; have HB1 := Lib.hid (bel0 HB0.out hb); have HX1 := Lib.hid ((hb.block w.heap.size (by omega)).trans HX0.out); have HM1 : Hid (MC w1 g (ET 0)) := Lib.hid (by rw [HS0.out]; exact hm); clear ho hb hm)
  go_loopw [10] (fun q wr => ∃ i : Nat, q = .int .i64 i ∧ i ≤ n ∧ Hid (MC wr g (ET i)) ∧ Hid (KG g w1 wr) ∧ Hid (wr.heap[w.heap.size]? = some (.cells #[.int .i64 bk, .int .i64 bn] 32 (0, 0)))) (fun q _ => n - (intOf q).toNat)
  case atStart => exact ⟨0, rfl, Nat.zero_le _, HM1, Lib.hid (KG.refl _ _), HX1⟩
  case round =>
    obtain ⟨i, rfl, hi, HMi, HKi, HXi⟩ := hrel
    by_cases hlt : i < n
    · have hlti : (i : Int) < n := by omega
      have c0 := cell_of_row _ _ 0 _ _ _ HXi.out
      have c1 := cell_of_row _ _ 1 _ _ _ HXi.out
      by_cases hin : z1 ≤ i ∧ (i : Int) < z2
      · obtain ⟨hz1, hz2⟩ := hin
        have hd1 : decide (z1 ≤ (i : Int)) = true := decide_eq_true hz1
        have hd2 : decide ((i : Int) < z2) = true := decide_eq_true hz2
        have HA : Hid (∀ W, Below wr.heap.size wr W → C8 W g (i * 8) (Ac (ET i) i) ∧ g < W.heap.size ∧ (∀ k, W.frozen? ⟨g, k, none⟩ = false) ∧ MC (set8 W g (i * 8) (blankC bk bn)) g (ET (i + 1)) ∧ KG g w1 (set8 W g (i * 8) (blankC bk bn)) ∧ (set8 W g (i * 8) (blankC bk bn)).heap[w.heap.size]? = some (.cells #[.int .i64 bk, .int .i64 bn] 32 (0, 0))) := Lib.hid fun W hW => by
          have hm := HMi.out.past hW
          have hlen : i < (ET i).length := by rw [HL.out, HLN.out]; exact hlt
          refine ⟨hm.at' i hlen, hm.lt, hm.free, by rw [((HST.out i).1 ⟨hz1, hz2⟩)]; exact hm.set i hlen _, (HKi.out.past hW).set8 _ _, ?_⟩
          have hh : ∀ (W : World) (o : Nat) (v : Value), (W.setCell ⟨g, o, none⟩ v).heap[w.heap.size]? = W.heap[w.heap.size]? := fun W o v => heap_setCell_other W ⟨g, o, none⟩ w.heap.size v (by show w.heap.size ≠ g; omega)
          unfold set8
          rw [hh, hh, hh, hh, hh, hh, hh, hh]
          exact (hW.block _ (Array.getElem?_eq_some_iff.1 HXi.out).1).trans HXi.out
        generalize Ac (ET i) i = x at *
        clear HST
        go_wp2_with (go_at_call 40; (with_reducible refine (HK.out _).mono ?_); rintro e w2 ⟨rfl, hb2⟩; obtain ⟨⟨a0, a1, a2, a3, a4, a5, a6, a7⟩, hgl, hfr, hm2, hk2, hx2⟩ := HA.out _ hb2; have HM2 := Lib.hid hm2; have HK2 := Lib.hid hk2; have HX2 := Lib.hid hx2; clear hb2 hm2 hk2 hx2)
        go_roundw
        case rel => exact ⟨i + 1, by go_num, hlt, HM2, HK2, HX2⟩
        case measure => simp [intOf]; omega
      · have HMN : Hid (MC wr g (ET (i + 1))) := Lib.hid (by rw [(HST.out i).2 hin]; exact HMi.out)
        clear HST
        by_cases hz1 : z1 ≤ (i : Int)
        · have hd1 : decide (z1 ≤ (i : Int)) = true := decide_eq_true hz1
          have hd2 : decide ((i : Int) < z2) = false := decide_eq_false (by omega)
          go_wp2
          go_roundw
          case rel => exact ⟨i + 1, by go_num, hlt, HMN, HKi, HXi⟩
          case measure => simp [intOf]; omega
        · have hd1 : decide (z1 ≤ (i : Int)) = false := decide_eq_false hz1
          go_wp2
          go_roundw
          case rel => exact ⟨i + 1, by go_num, hlt, HMN, HKi, HXi⟩
          case measure => simp [intOf]; omega
    · obtain rfl : i = n := by omega
      go_wp2_with (go_at_call 13; (with_reducible refine (HE.out _ _ _ HMi.out).mono ?_); rintro e w3 ⟨v, rfl, ho, hb⟩; have hK0 := Lib.hid (Below.ofKG HB1.out HKi.out (by omega) (HB1.out).size); have HO3 := Lib.hid (ho.lower hK0.out.size); have HB3 := Lib.hid (bel0 hK0.out hb); clear ho hb)
      go_ret
      exact ⟨_, rfl, HO3.out, HB3.out⟩
end Go.Proofs.YtoiekhjmfoodiaaDoor
