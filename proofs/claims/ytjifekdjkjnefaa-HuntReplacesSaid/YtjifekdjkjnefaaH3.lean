/- Needles in memory; a needle's hit; which of two comes first. -/
import Derived.Test.YtjifekdjkjnefaaH2
import Derived.Deep.RegionLaw
import Derived.Deep.RegionHeld3
namespace Go.Proofs.Ytjifekdjkjnefaa
open Go.RowKit

theorem sizeHit : (Try.prog.info? 33).map (·.size) = some 2 := by kernel_rfl
theorem row2h {W : World} {b : Nat} {v0 v1 : Value} {t : TypeId} (h : W.heap[b]? = some (.cells #[v0, v1] t (0, 0))) : W.cell? ⟨b, 0, none⟩ = some v0 ∧ W.cell? ⟨b, 1, none⟩ = some v1 := ⟨row_cell h 0 _ rfl, row_cell h 1 _ rfl⟩
set_option maxRecDepth 100000 in
set_option maxHeartbeats 2000000 in
theorem hit_any (wi hd : Int) (g off n c : Nat) (hn : 0 < n) (w : World) (hc : w.cell? ⟨g, off, none⟩ = some (.int .i64 hd)) (hg : g < w.heap.size) :
    Calls Try.prog 29 #[.agg #[.int .i64 wi, .slice (some ⟨g, off, none⟩) n c]] w fun e w' => e = .returned (.agg #[.int .i64 hd, .int .i64 wi]) ∧ ((w.alloc (.cells #[.int .i64 wi, .slice (some ⟨g, off, none⟩) n c] 51)).alloc (.cells #[.int .i64 hd, .int .i64 wi] 33)).drew = w' := by
  have hni : (0 : Int) < n := by omega
  have HB2 : Hid (∀ o o', Below w.heap.size w ((w.alloc o).alloc o')) := Lib.hid fun o o' => belA (belA (Below.refl _ _) _) _
  have hc2 : ∀ o o', ((w.alloc o).alloc o').cell? ⟨g, off, none⟩ = some (.int .i64 hd) := fun o o' => ((HB2.out o o').cell (p := ⟨g, off, none⟩) hg).trans hc
  have HROW : Hid (((w.alloc (.cells #[.int .i64 wi, .slice (some ⟨g, off, none⟩) n c] 51)).alloc (.cells #[.int .i64 hd, .int .i64 wi] 33)).drew.heap[w.heap.size + 1]? = some (.cells #[.int .i64 hd, .int .i64 wi] 33 (0, 0))) := Lib.hid (by
    have h2 := heap_alloc_new (w.alloc (.cells #[.int .i64 wi, .slice (some ⟨g, off, none⟩) n c] 51)) (.cells #[.int .i64 hd, .int .i64 wi] 33)
    rw [show (w.alloc (.cells #[.int .i64 wi, .slice (some ⟨g, off, none⟩) n c] 51)).heap.size = w.heap.size + 1 by simp] at h2
    exact h2)
  go_enter Try.func29, Try.ntmps29
  go_wp2_with fail
  go_region_law fail
  all_goals
    go_wp2
    refine bodyPost_ret (results_cell_row rfl _ _ (w.heap.size + 1) _ _ _ _ rfl HROW.out Try.underlying33 rfl sizeHit) rfl ?_
    exact ⟨rfl, rfl⟩
set_option maxRecDepth 100000 in
set_option maxHeartbeats 4000000 in
theorem less_at (G N c i j : Nat) (wi wj hi hj gi oi ni ci gj oj nj cj : Nat) (hiN : i < N) (hjN : j < N) (hni : 0 < ni) (hnj : 0 < nj) (hwi : wi < 1000) (hwj : wj < 1000) (w : World)
    (h : (w.cell? ⟨G, i * 2, none⟩ = some (.int .i64 wi) ∧ w.cell? ⟨G, i * 2 + 1, none⟩ = some (.slice (some ⟨gi, oi, none⟩) ni ci) ∧ w.cell? ⟨G, j * 2, none⟩ = some (.int .i64 wj) ∧ w.cell? ⟨G, j * 2 + 1, none⟩ = some (.slice (some ⟨gj, oj, none⟩) nj cj) ∧ w.cell? ⟨gi, oi, none⟩ = some (.int .i64 hi) ∧ w.cell? ⟨gj, oj, none⟩ = some (.int .i64 hj)) ∧ (G < w.heap.size ∧ gi < w.heap.size ∧ gj < w.heap.size)) :
    Calls Try.prog 62 #[.slice (some ⟨G, 0, none⟩) N c, .int .i64 i, .int .i64 j] w fun e w' => e = .returned (.bool (decide (hi * 1000 + wi < hj * 1000 + wj))) ∧ Below w.heap.size w w' := by
  have HS7 : Hid (∀ W, Below w.heap.size w W → ((W.cell? ⟨G, i * 2, none⟩ = some (.int .i64 wi) ∧ W.cell? ⟨G, i * 2 + 1, none⟩ = some (.slice (some ⟨gi, oi, none⟩) ni ci) ∧ W.cell? ⟨G, j * 2, none⟩ = some (.int .i64 wj) ∧ W.cell? ⟨G, j * 2 + 1, none⟩ = some (.slice (some ⟨gj, oj, none⟩) nj cj) ∧ W.cell? ⟨gi, oi, none⟩ = some (.int .i64 hi) ∧ W.cell? ⟨gj, oj, none⟩ = some (.int .i64 hj)) ∧ (G < W.heap.size ∧ gi < W.heap.size ∧ gj < W.heap.size))) := Lib.hid fun W hW => by
    obtain ⟨⟨h0, h1, h2, h3, h4, h5⟩, g0, g1, g2⟩ := h
    have hs := hW.size
    exact ⟨⟨(hW.cell (p := ⟨G, i * 2, none⟩) g0).trans h0, (hW.cell (p := ⟨G, i * 2 + 1, none⟩) g0).trans h1, (hW.cell (p := ⟨G, j * 2, none⟩) g0).trans h2, (hW.cell (p := ⟨G, j * 2 + 1, none⟩) g0).trans h3, (hW.cell (p := ⟨gi, oi, none⟩) g1).trans h4, (hW.cell (p := ⟨gj, oj, none⟩) g2).trans h5⟩, by omega, by omega, by omega⟩
  obtain ⟨rb, hrb⟩ : ∃ rb, rb = decide (hi * 1000 + wi < hj * 1000 + wj) := ⟨_, rfl⟩
  rw [← hrb]
  have HRB := Lib.hid hrb
  clear hrb
  have hiNi : (i : Int) < N := by omega
  have hjNi : (j : Int) < N := by omega
  have HSd := HS7.out _ (Below.refl w.heap.size w).drew
  have HHI : Hid (∀ W, Below w.heap.size w W → Calls Try.prog 29 #[.agg #[.int .i64 wi, .slice (some ⟨gi, oi, none⟩) ni ci]] W fun e w' => e = .returned (.agg #[.int .i64 hi, .int .i64 wi]) ∧ ((W.alloc (.cells #[.int .i64 wi, .slice (some ⟨gi, oi, none⟩) ni ci] 51)).alloc (.cells #[.int .i64 hi, .int .i64 wi] 33)).drew = w') := Lib.hid fun W hW => hit_any wi hi gi oi ni ci hni W (HS7.out W hW).1.2.2.2.2.1 (HS7.out W hW).2.2.1
  have HHJ : Hid (∀ W, Below w.heap.size w W → Calls Try.prog 29 #[.agg #[.int .i64 wj, .slice (some ⟨gj, oj, none⟩) nj cj]] W fun e w' => e = .returned (.agg #[.int .i64 hj, .int .i64 wj]) ∧ ((W.alloc (.cells #[.int .i64 wj, .slice (some ⟨gj, oj, none⟩) nj cj] 51)).alloc (.cells #[.int .i64 hj, .int .i64 wj] 33)).drew = w') := Lib.hid fun W hW => hit_any wj hj gj oj nj cj hnj W (HS7.out W hW).1.2.2.2.2.2 (HS7.out W hW).2.2.2
  clear h
  go_enter Try.func62, Try.ntmps62
  go_wp2_with fail
  go_region_held3 (fun W => ((W.cell? ⟨G, i * 2, none⟩ = some (.int .i64 wi) ∧ W.cell? ⟨G, i * 2 + 1, none⟩ = some (.slice (some ⟨gi, oi, none⟩) ni ci) ∧ W.cell? ⟨G, j * 2, none⟩ = some (.int .i64 wj) ∧ W.cell? ⟨G, j * 2 + 1, none⟩ = some (.slice (some ⟨gj, oj, none⟩) nj cj) ∧ W.cell? ⟨gi, oi, none⟩ = some (.int .i64 hi) ∧ W.cell? ⟨gj, oj, none⟩ = some (.int .i64 hj)) ∧ (G < W.heap.size ∧ gi < W.heap.size ∧ gj < W.heap.size)))
    (first | exact HSd | assumption | exact HS7.out _ (by repeat (first | exact Below.refl _ _ | refine Below.drew ?_ | refine belA ?_ _)))
    (first
      | (go_at_call 29; (with_reducible refine (HHI.out _ (by repeat (first | exact Below.refl _ _ | refine Below.drew ?_ | refine belA ?_ _))).mono ?_); rintro e7 w7 ⟨rfl, rfl⟩; clear HHI)
      | (go_at_call 29; (with_reducible refine (HHJ.out _ (by repeat (first | exact Below.refl _ _ | refine Below.drew ?_ | refine belA ?_ _))).mono ?_); rintro e8 w8 ⟨rfl, rfl⟩; clear HHJ))
  all_goals
    clear HSd HS7
    rcases (show hi < hj ∨ (hi = hj ∧ wi < wj) ∨ (hi = hj ∧ ¬ wi < wj) ∨ hj < hi by omega) with hx | hx | hx | hx
    · have HD := Lib.hid (HRB.out.trans (decide_eq_true (show hi * 1000 + wi < hj * 1000 + wj by omega)))
      have h1 : (hi : Int) < hj := by omega
      clear hx
      go_wp2
      go_ret
      exact ⟨by rw [HD.out]; rfl, by repeat (first | exact Below.refl _ _ | refine Below.drew ?_ | refine belA ?_ _)⟩
    · obtain ⟨rfl, hx⟩ := hx
      have HD := Lib.hid (HRB.out.trans (decide_eq_true (show hi * 1000 + wi < hi * 1000 + wj by omega)))
      have h3 : (wi : Int) < wj := by omega
      clear hx
      go_wp2
      go_ret
      exact ⟨by rw [HD.out]; rfl, by repeat (first | exact Below.refl _ _ | refine Below.drew ?_ | refine belA ?_ _)⟩
    · obtain ⟨rfl, hx⟩ := hx
      have HD := Lib.hid (HRB.out.trans (decide_eq_false (show ¬ (hi * 1000 + wi < hi * 1000 + wj) by omega)))
      have h3 : ¬ (wi : Int) < wj := by omega
      clear hx
      go_wp2
      go_ret
      exact ⟨by rw [HD.out]; rfl, by repeat (first | exact Below.refl _ _ | refine Below.drew ?_ | refine belA ?_ _)⟩
    · have HD := Lib.hid (HRB.out.trans (decide_eq_false (show ¬ (hi * 1000 + wi < hj * 1000 + wj) by omega)))
      have h1 : ¬ (hi : Int) < hj := by omega
      have h2 : ((hi : Int) == hj) = false := by simp; omega
      clear hx
      go_wp2
      go_ret
      exact ⟨by rw [HD.out]; rfl, by repeat (first | exact Below.refl _ _ | refine Below.drew ?_ | refine belA ?_ _)⟩

end Go.Proofs.Ytjifekdjkjnefaa
