/- The walk of told. -/
import Derived.Test.YtlndmfbopopmmaaDoorAj
namespace Go.Proofs.YtlndmfbopopmmaaDoor
open Go.RowKit

def toldP (c : Int × Int) (g : List Int) (t : List (List Int)) : (Int × Int) × Nat := if 1 < g.length then (withinP c g, 1) else ((behindP c t).1, (behindP c t).2 + 1)
def ToldPost (k0 n0 : Int) (g : List Int) (t : List (List Int)) (w : World) (e : Ending) (w' : World) : Prop := e = .returned (.tuple #[.agg #[.int .i64 (toldP (k0, n0) g t).1.1, .int .i64 (toldP (k0, n0) g t).1.2], .int .i64 (toldP (k0, n0) g t).2]) ∧ Below w.heap.size w w'
theorem within_any (k0 n0 : Int) (A : Option Addr) (xs : List Int) (c : Nat) (h1 : 1 < xs.length) (hc : xs.length ≤ c) (w : World) (hR : RI w w.heap.size A xs) :
    Calls Tryd.prog 34 #[.agg #[.int .i64 k0, .int .i64 n0], .slice A xs.length c] w fun e w' => e = .returned (.agg #[.int .i64 (withinP (k0, n0) xs).1, .int .i64 (withinP (k0, n0) xs).2]) ∧ Below w.heap.size w w' := by
  rw [← withinP_eq (k0, n0)]
  obtain ⟨b, off, rfl, _⟩ := hR (fun e => by rw [e] at h1; simp at h1)
  by_cases g1 : xs[1]?.getD 0 = 5 ∧ xs.length = 3
  · have := within_five k0 n0 b off c xs g1.2 (by omega) g1.1 w hR
    rw [g1.2]
    exact this
  · by_cases g2 : xs[1]?.getD 0 = 2 ∧ (xs.length = 5 ∨ xs.length = 6)
    · rcases g2.2 with h | h
      · have := within_mix5 k0 n0 b off c xs h (by omega) g2.1 w hR
        rw [h]
        exact this
      · have := within_mix6 k0 n0 b off c xs h (by omega) g2.1 w hR
        rw [h]
        exact this
    · exact within_none k0 n0 b off _ c xs rfl h1 g1 g2 w hR
theorem behind_all (k0 n0 : Int) (A : Option Addr) (L : List (List Int)) (n c : Nat) (hn : n = L.length) (hc : n ≤ c) (w : World) (hR : RG w w.heap.size A L) :
    Calls Tryd.prog 35 #[.agg #[.int .i64 k0, .int .i64 n0], .slice A n c] w (BehPost k0 n0 L w) := by
  cases L with
  | nil => subst hn; exact behind_none k0 n0 A c w
  | cons g t => exact behind_any k0 n0 A g t n c hn hc w hR
theorem RG.tail {w : World} {B b off : Nat} {g : List Int} {t : List (List Int)} (h : RG w B (some ⟨b, off, none⟩) (g :: t)) : RG w B (some ⟨b, off + 1, none⟩) t := fun hne => by
  obtain ⟨b', off', e, hb, hc⟩ := h (by simp)
  injection e with e
  injection e with e1 e2 _
  subst e1; subst e2
  refine ⟨b, off + 1, rfl, hb, fun k hk => ?_⟩
  obtain ⟨Ai, ci, h1, h2, h3⟩ := hc (k + 1) (by simp; omega)
  rw [List.getElem?_cons_succ] at h1 h2 h3
  exact ⟨Ai, ci, by rw [Nat.add_assoc, Nat.add_comm 1 k]; exact h1, h2, h3⟩

theorem res_cells3 {w w3 : World} {k0 n0 : Int} (hb : Below (((w.alloc (.cells #[.int .i64 k0, .int .i64 n0] 23)).alloc (.cells #[.int .i64 0, .int .i64 0] 23)).alloc (.cells #[.int .i64 0, .int .i64 0] 23)).heap.size (((w.alloc (.cells #[.int .i64 k0, .int .i64 n0] 23)).alloc (.cells #[.int .i64 0, .int .i64 0] 23)).alloc (.cells #[.int .i64 0, .int .i64 0] 23)) w3) :
    w3.cell? ⟨w.heap.size, 0, none⟩ = some (.int .i64 k0) ∧ w3.cell? ⟨w.heap.size, 1, none⟩ = some (.int .i64 n0) ∧ w3.cell? ⟨w.heap.size + 1, 0, none⟩ = some (.int .i64 0) ∧ w3.cell? ⟨w.heap.size + 1, 1, none⟩ = some (.int .i64 0) ∧ w3.frozen? ⟨w.heap.size + 1, 0, none⟩ = false ∧ w3.frozen? ⟨w.heap.size + 1, 1, none⟩ = false ∧ w3.cell? ⟨w.heap.size + 1 + 1, 0, none⟩ = some (.int .i64 0) ∧ w3.cell? ⟨w.heap.size + 1 + 1, 1, none⟩ = some (.int .i64 0) ∧ w3.frozen? ⟨w.heap.size + 1 + 1, 0, none⟩ = false ∧ w3.frozen? ⟨w.heap.size + 1 + 1, 1, none⟩ = false ∧ w.heap.size + 1 + 1 < w3.heap.size := by
  obtain ⟨hc, hf⟩ := bcell hb
  have h3 := hb.size
  have hz : (((w.alloc (.cells #[.int .i64 k0, .int .i64 n0] 23)).alloc (.cells #[.int .i64 0, .int .i64 0] 23)).alloc (.cells #[.int .i64 0, .int .i64 0] 23)).heap.size = w.heap.size + 3 := by simp
  rw [hz] at hc hf h3
  have b0 : (((w.alloc (.cells #[.int .i64 k0, .int .i64 n0] 23)).alloc (.cells #[.int .i64 0, .int .i64 0] 23)).alloc (.cells #[.int .i64 0, .int .i64 0] 23)).heap[w.heap.size]? = some (.cells #[.int .i64 k0, .int .i64 n0] 23 (0, 0)) := alloc_block (alloc_block (heap_alloc_new w _))
  have b1 : (((w.alloc (.cells #[.int .i64 k0, .int .i64 n0] 23)).alloc (.cells #[.int .i64 0, .int .i64 0] 23)).alloc (.cells #[.int .i64 0, .int .i64 0] 23)).heap[w.heap.size + 1]? = some (.cells #[.int .i64 0, .int .i64 0] 23 (0, 0)) := alloc_block (by
    have h := heap_alloc_new (w.alloc (.cells #[.int .i64 k0, .int .i64 n0] 23)) (.cells #[.int .i64 0, .int .i64 0] 23)
    rw [show (w.alloc (.cells #[.int .i64 k0, .int .i64 n0] 23)).heap.size = w.heap.size + 1 by simp] at h
    exact h)
  have b2 : (((w.alloc (.cells #[.int .i64 k0, .int .i64 n0] 23)).alloc (.cells #[.int .i64 0, .int .i64 0] 23)).alloc (.cells #[.int .i64 0, .int .i64 0] 23)).heap[w.heap.size + 1 + 1]? = some (.cells #[.int .i64 0, .int .i64 0] 23 (0, 0)) := by
    have h := heap_alloc_new ((w.alloc (.cells #[.int .i64 k0, .int .i64 n0] 23)).alloc (.cells #[.int .i64 0, .int .i64 0] 23)) (.cells #[.int .i64 0, .int .i64 0] 23)
    rw [show ((w.alloc (.cells #[.int .i64 k0, .int .i64 n0] 23)).alloc (.cells #[.int .i64 0, .int .i64 0] 23)).heap.size = w.heap.size + 1 + 1 by simp] at h
    exact h
  generalize ((w.alloc (.cells #[.int .i64 k0, .int .i64 n0] 23)).alloc (.cells #[.int .i64 0, .int .i64 0] 23)).alloc (.cells #[.int .i64 0, .int .i64 0] 23) = W at *
  have c0 := fun j => cell_of_row W w.heap.size j _ _ _ b0
  have c1 := fun j => cell_of_row W (w.heap.size + 1) j _ _ _ b1
  have c2 := fun j => cell_of_row W (w.heap.size + 1 + 1) j _ _ _ b2
  refine ⟨(hc w.heap.size 0 (by omega)).trans (c0 0), (hc w.heap.size 1 (by omega)).trans (c0 1), (hc (w.heap.size + 1) 0 (by omega)).trans (c1 0), (hc (w.heap.size + 1) 1 (by omega)).trans (c1 1), (hf (w.heap.size + 1) 0 (by omega)).trans ?_, (hf (w.heap.size + 1) 1 (by omega)).trans ?_, (hc (w.heap.size + 1 + 1) 0 (by omega)).trans (c2 0), (hc (w.heap.size + 1 + 1) 1 (by omega)).trans (c2 1), (hf (w.heap.size + 1 + 1) 0 (by omega)).trans ?_, (hf (w.heap.size + 1 + 1) 1 (by omega)).trans ?_, by omega⟩
  all_goals simp [World.frozen?, b1, b2]
set_option maxHeartbeats 4000000 in
theorem told_any (k0 n0 : Int) (A : Option Addr) (g : List Int) (t : List (List Int)) (n c : Nat) (hn : n = (g :: t).length) (hc : n ≤ c) (w : World) (hR : RG w w.heap.size A (g :: t)) :
    Calls Tryd.prog 23 #[.agg #[.int .i64 k0, .int .i64 n0], .slice A n c] w (ToldPost k0 n0 g t w) := by
  obtain ⟨b, off, rfl, hga⟩ := groups_at hR (by simp)
  obtain ⟨A0, c0, hc0, h0⟩ := hga 0 (by simp)
  have HC0 : Hid (∀ W, Below w.heap.size w W → W.cell? ⟨b, off, none⟩ = some (.slice A0 g.length c0)) := Lib.hid fun W hW => (h0 W hW).1
  have hnp : (0 : Int) < n := by simp at hn; omega
  have hcc := HC0.out _ (belA (belA (Below.refl _ _) (.cells #[.int .i64 k0, .int .i64 n0] 23)) (.cells #[.int .i64 0, .int .i64 0] 23))
  unfold ToldPost
  by_cases hg : 1 < g.length
  · have HW : Hid (∀ W, Below w.heap.size w W → Calls Tryd.prog 34 #[.agg #[.int .i64 k0, .int .i64 n0], .slice A0 g.length c0] W fun e w' => e = .returned (.agg #[.int .i64 (withinP (k0, n0) g).1, .int .i64 (withinP (k0, n0) g).2]) ∧ Below W.heap.size W w') := Lib.hid fun W hW => within_any k0 n0 A0 g c0 hg hc0 W ((h0 W hW).2.more hW.size)
    have HE : Hid (toldP (k0, n0) g t = (withinP (k0, n0) g, 1)) := Lib.hid (if_pos hg)
    rw [HE.out]
    have hgi : (1 : Int) < g.length := by omega
    clear hR hga h0 hn hg hc HE
    generalize (withinP (k0, n0) g).1 = ck at *
    generalize (withinP (k0, n0) g).2 = cn at *
    generalize g.length = m at *
    go_enter Tryd.func23, Tryd.ntmps23
    go_wp2_with (go_at_call 34; (with_reducible refine (HW.out _ (belA (belA (Below.refl _ _) _) _)).mono ?_); rintro e w3 ⟨rfl, hb3⟩; obtain ⟨q0, q1, r0, r1, f0, f1⟩ := res_cells hb3; have hz3 := sz2 hb3; have HB3 := Lib.hid (bel2 (Below.refl _ _) hb3); clear hb3)
    exact bodyPost_ret (v := .tuple #[.agg #[.int .i64 ck, .int .i64 cn], .int .i64 1]) (by simp [results, Tryd.results23, go_sem, r0, r1]) rfl ⟨rfl, res_below HB3.out⟩
  · have HE : Hid (toldP (k0, n0) g t = ((behindP (k0, n0) t).1, (behindP (k0, n0) t).2 + 1)) := Lib.hid (if_neg hg)
    rw [HE.out]
    have hgi : ¬ (1 : Int) < g.length := by omega
    have HBH : Hid (∀ W, Below w.heap.size w W → Calls Tryd.prog 35 #[.agg #[.int .i64 k0, .int .i64 n0], .slice (some ⟨b, off + 1, none⟩) (n - 1) (c - 1)] W fun e w' => e = .returned (.tuple #[.agg #[.int .i64 (behindP (k0, n0) t).1.1, .int .i64 (behindP (k0, n0) t).1.2], .int .i64 (behindP (k0, n0) t).2]) ∧ Below W.heap.size W w') := Lib.hid fun W hW => behind_all k0 n0 _ t (n - 1) (c - 1) (by simp at hn; omega) (by omega) W ((hR.below hW).more hW.size).tail
    have hbd : (behindP (k0, n0) t).2 ≤ 4 := by
      unfold behindP
      split
      · simp
      · split
        · split
          · show _ + 1 ≤ 4; omega
          · show 2 ≤ 4; omega
        · split
          · split
            · show _ + 1 ≤ 4; omega
            · show 4 ≤ 4; omega
          · show 1 ≤ 4; omega
    have hci : (n : Int) ≤ c := by omega
    have hn1 : (1 : Int) ≤ n := by omega
    have HT0 : Hid (n = 1 → ∀ W A', Below w.heap.size w W → Calls Tryd.prog 35 #[.agg #[.int .i64 k0, .int .i64 n0], .slice A' 0 0] W fun e w' => e = .returned (.tuple #[.agg #[.int .i64 (behindP (k0, n0) t).1.1, .int .i64 (behindP (k0, n0) t).1.2], .int .i64 (behindP (k0, n0) t).2]) ∧ Below W.heap.size W w') := Lib.hid fun h W A' _ => by
      have ht : t = [] := List.eq_nil_of_length_eq_zero (by simp at hn; omega)
      subst ht
      exact behind_none k0 n0 A' 0 W
    generalize (behindP (k0, n0) t).1.1 = ck at *
    generalize (behindP (k0, n0) t).1.2 = cn at *
    generalize (behindP (k0, n0) t).2 = d at *
    have HN := Lib.hid hn
    clear hR hga h0 hg HE hn
    have hwd : wrap64 (1 + (d : Int)) = ((d + 1 : Nat) : Int) := by
      rw [IntWalk.wrap64_in _ (by omega)]
      omega
    by_cases hc1 : c = 1
    · have hn1' : n = 1 := by omega
      subst hc1
      subst hn1'
      have HB1 : Hid (∀ W A', Below w.heap.size w W → Calls Tryd.prog 35 #[.agg #[.int .i64 k0, .int .i64 n0], .slice A' 0 0] W fun e w' => e = .returned (.tuple #[.agg #[.int .i64 ck, .int .i64 cn], .int .i64 d]) ∧ Below W.heap.size W w') := Lib.hid (HT0.out rfl)
      clear HBH HT0
      generalize g.length = m at *
      go_enter Tryd.func23, Tryd.ntmps23
      go_upto_region 4 with fail
      go_region_with (go_at_call 35; (first
        | ((with_reducible refine (HB1.out _ _ (belA (belA (Below.refl _ _) _) _).drew).mono ?_); rintro e w5 ⟨rfl, hb5⟩; obtain ⟨q0, q1, r0, r1, f0, f1⟩ := res_cells (belD hb5); have hz5 := sz2 (belD hb5); have HB5 := Lib.hid (bel2 (Below.refl _ _) (belD hb5)); clear hb5)
        | ((with_reducible refine (HB1.out _ _ (belA (belA (belA (Below.refl _ _) _) _) _).drew).mono ?_); rintro e w5 ⟨rfl, hb5⟩; obtain ⟨q0, q1, r0, r1, f0, f1, s0, s1, g0, g1, hz5⟩ := res_cells3 (belD hb5); have HB5 := Lib.hid (bel3 (Below.refl _ _) (belD hb5)); clear hb5)))
      all_goals
        go_wp2
        refine bodyPost_ret (v := .tuple #[.agg #[.int .i64 ck, .int .i64 cn], .int .i64 ((d + 1 : Nat) : Int)]) (by first | (simp [results, Tryd.results23, go_sem, r0, r1]; done) | (simp [results, Tryd.results23, go_sem, r0, r1]; omega) | (simp [results, Tryd.results23, go_sem, r0, r1, hz5]; done) | (simp [results, Tryd.results23, go_sem, r0, r1, hz5]; omega)) rfl ⟨rfl, ?_⟩
        first
          | exact (res_below HB5.out).alloc (by simp; omega) _
          | exact res_below ((HB5.out.setCell (p := ⟨w.heap.size + 1 + 1, 0, none⟩) (by show w.heap.size ≤ w.heap.size + 1 + 1; omega) _).setCell (p := ⟨w.heap.size + 1 + 1, 1, none⟩) (by show w.heap.size ≤ w.heap.size + 1 + 1; omega) _)
    · clear HT0
      have hcn1 : 1 ≤ c := by omega
      generalize g.length = m at *
      go_enter Tryd.func23, Tryd.ntmps23
      go_upto_region 4 with fail
      go_region_with (go_at_call 35; (first
        | ((with_reducible refine (HBH.out _ (belA (belA (Below.refl _ _) _) _).drew).mono ?_); rintro e w5 ⟨rfl, hb5⟩; obtain ⟨q0, q1, r0, r1, f0, f1⟩ := res_cells (belD hb5); have hz5 := sz2 (belD hb5); have HB5 := Lib.hid (bel2 (Below.refl _ _) (belD hb5)); clear hb5)
        | ((with_reducible refine (HBH.out _ (belA (belA (belA (Below.refl _ _) _) _) _).drew).mono ?_); rintro e w5 ⟨rfl, hb5⟩; obtain ⟨q0, q1, r0, r1, f0, f1, s0, s1, g0, g1, hz5⟩ := res_cells3 (belD hb5); have HB5 := Lib.hid (bel3 (Below.refl _ _) (belD hb5)); clear hb5)))
      all_goals
        go_wp2
        refine bodyPost_ret (v := .tuple #[.agg #[.int .i64 ck, .int .i64 cn], .int .i64 ((d + 1 : Nat) : Int)]) (by first | (simp [results, Tryd.results23, go_sem, r0, r1]; done) | (simp [results, Tryd.results23, go_sem, r0, r1]; omega) | (simp [results, Tryd.results23, go_sem, r0, r1, hz5]; done) | (simp [results, Tryd.results23, go_sem, r0, r1, hz5]; omega)) rfl ⟨rfl, ?_⟩
        first
          | exact (res_below HB5.out).alloc (by simp; omega) _
          | exact res_below ((HB5.out.setCell (p := ⟨w.heap.size + 1 + 1, 0, none⟩) (by show w.heap.size ≤ w.heap.size + 1 + 1; omega) _).setCell (p := ⟨w.heap.size + 1 + 1, 1, none⟩) (by show w.heap.size ≤ w.heap.size + 1 + 1; omega) _)

end Go.Proofs.YtlndmfbopopmmaaDoor
