/- The document's Blank and Blanks. -/
import Derived.Test.YtoiekhjmfoodiaaDoorGl
namespace Go.Proofs.YtoiekhjmfoodiaaDoor
open Go.RowKit

set_option maxRecDepth 100000 in
set_option maxHeartbeats 2000000 in
theorem refBlank_any (k n : Int) (w : World) : Calls Tryd.prog 40 #[.agg #[.int .i64 k, .int .i64 n]] w fun e w' => e = .returned (.agg #[.int .i32 0, .string ⟨#[]⟩, .int .i64 0, .int .i64 0, .int .i64 0, .int .i64 k, .int .i64 n, .int .i64 0]) ∧ Below w.heap.size w w' := by
  go_enter Tryd.func40, Tryd.ntmps40
  go_wp2
  refine bodyPost_ret (v := .agg #[.int .i32 0, .string ⟨#[]⟩, .int .i64 0, .int .i64 0, .int .i64 0, .int .i64 k, .int .i64 n, .int .i64 0]) (by simp [results, Tryd.results40, go_sem]) rfl ⟨rfl, ?_⟩
  exact belA (belA (Below.refl _ _) _) _
theorem rep_end {w wr W2 w5 : World} {B i : Nat} {vo v5 : Value} {x : CC} (hown : wr.ownsRow B 44 8 vo i (cellsC (List.replicate i x))) (hB0 : Below B w wr) (hBs : B ≤ w.heap.size) (hB : Below wr.heap.size wr W2) (ho5 : w5.ownsRow B 44 8 v5 (i + 1) (cellsC (List.replicate i x) ++ encC x)) (hg : W2.grownBy w5 vo.ownBlock) : w5.ownsRow B 44 8 v5 (i + 1) (cellsC (List.replicate (i + 1) x)) ∧ Below B w w5 := by
  have hs := hB0.size
  have hs2 := hB.size
  have hb : Below B w W2 := ⟨hB.os.trans hB0.os, hB.tape.trans hB0.tape, hB.output.trans hB0.output, by omega, fun k hk => (hB.block k (by omega)).trans (hB0.block k hk)⟩
  refine ⟨by rw [List.replicate_succ', cellsC_snoc]; exact ho5, hb.grown hg (by omega) fun k e => ?_⟩
  rcases hown.2 with ⟨h1, _⟩ | ⟨g, cap, cur, h1, h2, _⟩
  · rw [h1] at e; cases e
  · rw [h1] at e
    cases e
    exact h2
set_option maxRecDepth 100000 in
set_option maxHeartbeats 4000000 in
theorem refBlanks_any (z k n : Int) (m : Nat) (hm : max (min z 1000) 0 = (m : Int)) (w : World) :
    Calls Tryd.prog 20 #[.int .i64 z, .agg #[.int .i64 k, .int .i64 n]] w fun e w' => ∃ v, e = .returned v ∧ OC w.heap.size w' v (List.replicate m (blankC k n)) ∧ Below w.heap.size w w' := by
  obtain ⟨i0, hi0, hz0, hz1, hz2⟩ := info_parts infoCell
  have hm1 : m ≤ 1000 := by omega
  have HK := Lib.hid (refBlank_any k n)
  have HB1 := Lib.hid (belA (Below.refl w.heap.size w) (.cells #[.int .i64 k, .int .i64 n] 32))
  have HX1 := Lib.hid (heap_alloc_new w (.cells #[.int .i64 k, .int .i64 n] 32))
  have hs1 : (w.alloc (.cells #[.int .i64 k, .int .i64 n] 32)).heap.size = w.heap.size + 1 := by simp
  go_enter Tryd.func20, Tryd.ntmps20
  go_wp2
  generalize w.alloc (.cells #[.int .i64 k, .int .i64 n] 32) = w1 at *
  go_loopw [5, 6] (fun v q wr => ∃ (i : Nat) (vo : Value), vo = v ∧ q = .int .i64 i ∧ i ≤ m ∧ Hid (wr.ownsRow w1.heap.size 44 8 vo i (cellsC (List.replicate i (blankC k n)))) ∧ Hid (Below w1.heap.size w1 wr)) (fun _ q _ => m - (intOf q).toNat)
  case atStart => exact ⟨0, _, rfl, rfl, Nat.zero_le _, Lib.hid (World.ownsRow_nil _ _ _ _), Lib.hid (Below.refl _ _)⟩
  case round =>
    obtain ⟨i, vo, rfl, rfl, hi, HO, HB⟩ := hrel
    have hbx := (HB.out.block w.heap.size (by omega)).trans HX1.out
    have c0 := cell_of_row _ _ 0 _ _ _ hbx
    have c1 := cell_of_row _ _ 1 _ _ _ hbx
    clear hbx
    by_cases hlt : i < m
    · have hl1 : (i : Int) < z := by omega
      have hl2 : i < 1000 := by omega
      have hd1 : decide ((i : Int) < z) = true := decide_eq_true hl1
      have hd2 : decide (i < 1000) = true := decide_eq_true hl2
      have hws := HB.out.size
      obtain ⟨Ao, co, rfl⟩ := own_form8 HO.out
      have HEND : Hid (∀ W2 w5 v5, Below wr.heap.size wr W2 → w5.ownsRow w1.heap.size 44 8 v5 (i + 1) (cellsC (List.replicate i (blankC k n)) ++ encC (blankC k n)) → W2.grownBy w5 (Value.slice Ao i co).ownBlock → w5.ownsRow w1.heap.size 44 8 v5 (i + 1) (cellsC (List.replicate (i + 1) (blankC k n))) ∧ Below w1.heap.size w1 w5) := Lib.hid fun W2 w5 v5 hb h1 h2 => rep_end HO.out HB.out (Nat.le_refl _) hb h1 h2
      have HOWN : Hid (∀ W, Below wr.heap.size wr W → W.ownsRow w1.heap.size 44 8 (.slice Ao i co) i (cellsC (List.replicate i (blankC k n)))) := Lib.hid fun W hW => own_past' HO.out hW
      clear HO
      generalize cellsC (List.replicate i (blankC k n)) = ol at HOWN HEND
      go_wp2_with (first
        | (go_at_call 40; (with_reducible refine (HK.out _).mono ?_); rintro e w2 ⟨rfl, hb2⟩; have hs2 := hb2.size; have HB2 := Lib.hid hb2; have HN5 := Lib.hid (newsAt (W := w2) rfl (blankC k n) 44); clear hb2)
        | (at_builtin; go_must (refine wpList_append_own _ rfl _ _ 22 rfl w1.heap.size 44 i0 _ 8 72 Tryd.underlying22 hi0 hz0 hz1 hz2 rfl (by decide) (.slice Ao i co) i ol rfl (HOWN.out _ (belA HB2.out _)) ⟨w2.heap.size, 0, none⟩ 1 1 (encC (blankC k n)) rfl rfl HN5.out (encC_one (blankC k n)) (by unfold maxLen; omega) (by omega) (by simp; omega) ?_; intro v5 w5 hown5 hgrow5 _; have HZ := Lib.hid (HEND.out _ _ _ (belA HB2.out _) hown5 hgrow5); clear hown5 hgrow5)))
      go_roundw
      case rel => exact ⟨i + 1, _, rfl, by go_num, hlt, Lib.hid HZ.out.1, Lib.hid HZ.out.2⟩
      case measure => simp [intOf]; omega
    · obtain rfl : i = m := by omega
      have HE : Hid (OC w.heap.size wr vo (List.replicate i (blankC k n)) ∧ Below w.heap.size w wr) := Lib.hid ⟨by
        rcases OC.of_own HO.out (by simp) with h | ⟨g, c, h1, h2, h3, h4⟩
        · exact .inl h
        · exact .inr ⟨g, c, h1, by omega, h3, h4⟩, bel0 HB1.out HB.out⟩
      clear HO
      by_cases hz : (i : Int) < z
      · have hd1 : decide ((i : Int) < z) = true := decide_eq_true hz
        have hd2 : decide (i < 1000) = false := decide_eq_false (by omega)
        have hd3 : decide ((i : Int) < 1000) = false := decide_eq_false (by omega)
        go_wp2
        go_ret
        exact ⟨_, rfl, HE.out⟩
      · have hd1 : decide ((i : Int) < z) = false := decide_eq_false hz
        go_wp2
        go_ret
        exact ⟨_, rfl, HE.out⟩
end Go.Proofs.YtoiekhjmfoodiaaDoor
