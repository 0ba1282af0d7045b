/- The walk of the reference's Push. -/
import Derived.Test.YtehfejgalemhaaaNz
namespace Go.Proofs.Ytehfejgalemhaaa
open Go.RowKit

set_option maxRecDepth 100000 in
set_option maxHeartbeats 4000000 in
theorem rpush_any {P : Nat → Prop} (w : World) (D : Nat) (v v1 v2 : Value) (room : Nat) (gone : Int) (L : List (Int × Bool)) (xs : List Value) (r : Int × Bool) (h : RF P w D v room gone L xs) (hr : RV P w v1 v2 r) (hl : L.length ≤ 1000000) :
    Calls Try.prog 18 #[.pointer (some ⟨D, 0, none⟩), .agg #[v1, v2]] w fun e w' => RPushPost P w D v room gone L r e w' := by
  obtain ⟨b1, c1, rfl, rfl, _⟩ := hr.cells
  obtain ⟨⟨d0, d1, d2⟩, df⟩ := h.cells
  have hlt := h.lt
  obtain ⟨A, c, rfl⟩ := h.rows.shape
  have HM := Lib.hid h
  have HMID : Hid (∀ (w6 : World) (v6 : Value), OR w6 v6 (L.length + 1) (xs ++ [.slice (some ⟨b1, 0, none⟩) 1 c1, .bool r.2]) → ((((w.alloc (.cells #[.slice (some ⟨b1, 0, none⟩) 1 c1, .bool r.2] 43)).alloc (.cells #[.slice none 0 0, .bool false] 43)).alloc (.cells #[.slice (some ⟨b1, 0, none⟩) 1 c1, .bool r.2] 43)).drew).grownBy w6 (Value.slice A L.length c).ownBlock → (v6.ownBlock = (Value.slice A L.length c).ownBlock ∨ v6.ownBlock = some (((w.alloc (.cells #[.slice (some ⟨b1, 0, none⟩) 1 c1, .bool r.2] 43)).alloc (.cells #[.slice none 0 0, .bool false] 43)).alloc (.cells #[.slice (some ⟨b1, 0, none⟩) 1 c1, .bool r.2] 43)).drew.heap.size) →
      (w6.cell? ⟨D, 1, none⟩ = some (.slice A L.length c) ∧ w6.frozen? ⟨D, 1, none⟩ = false) ∧ RF P (w6.setCell ⟨D, 1, none⟩ v6) D v6 room gone (L ++ [r]) (xs ++ [.slice (some ⟨b1, 0, none⟩) 1 c1, .bool r.2]) ∧ KB (fun i => i = D ∨ some i = (Value.slice A L.length c).ownBlock) w (w6.setCell ⟨D, 1, none⟩ v6) ∧
      (w6.setCell ⟨D, 1, none⟩ v6).heap[w.heap.size]? = some (.cells #[.slice (some ⟨b1, 0, none⟩) 1 c1, .bool r.2] 43 (0, 0)) ∧ (w6.setCell ⟨D, 1, none⟩ v6).heap[w.heap.size + 1]? = some (.cells #[.slice none 0 0, .bool false] 43 (0, 0)) ∧
      (v6.ownBlock = (Value.slice A L.length c).ownBlock ∨ ∃ g, v6.ownBlock = some g ∧ w.heap.size + 1 < g)) := Lib.hid fun w6 v6 ho6 hg6 hor => rpush_mid HM.out hr _ ho6 (grown_drew' hg6) hor
  have HOWN : Hid (OR ((((w.alloc (.cells #[.slice (some ⟨b1, 0, none⟩) 1 c1, .bool r.2] 43)).alloc (.cells #[.slice none 0 0, .bool false] 43)).alloc (.cells #[.slice (some ⟨b1, 0, none⟩) 1 c1, .bool r.2] 43)).drew) (.slice A L.length c) L.length xs) := Lib.hid (h.past (belA (belA (belA (Below.refl w.heap.size w) _) _) _).drew).rows
  have HNEW : Hid (∀ j u, [Value.slice (some ⟨b1, 0, none⟩) 1 c1, .bool r.2][j]? = some u → ((((w.alloc (.cells #[.slice (some ⟨b1, 0, none⟩) 1 c1, .bool r.2] 43)).alloc (.cells #[.slice none 0 0, .bool false] 43)).alloc (.cells #[.slice (some ⟨b1, 0, none⟩) 1 c1, .bool r.2] 43)).drew).cell? ((⟨w.heap.size + 1 + 1, 0, none⟩ : Addr).add j) = some u) := Lib.hid fun j u hu => by
    have hx := news_two ((w.alloc (.cells #[.slice (some ⟨b1, 0, none⟩) 1 c1, .bool r.2] 43)).alloc (.cells #[.slice none 0 0, .bool false] 43)) (.slice (some ⟨b1, 0, none⟩) 1 c1) (.bool r.2) 43 j u hu
    have hs : ((w.alloc (.cells #[.slice (some ⟨b1, 0, none⟩) 1 c1, .bool r.2] 43)).alloc (.cells #[.slice none 0 0, .bool false] 43)).heap.size = w.heap.size + 1 + 1 := by simp only [World.size_alloc]
    rw [hs] at hx
    exact hx
  have hD1 : D < w.heap.size + 1 := by omega
  have hD2 : D < w.heap.size + 1 + 1 := by omega
  clear h hr
  generalize hq : r.2 = q at *
  clear hq
  go_enter Try.func18, Try.ntmps18
  go_wp2_with fail
  go_region_law (first
    | ((refine step_append_rows rfl _ _ rfl (.slice A L.length c) L.length xs rfl HOWN.out ⟨w.heap.size + 1 + 1, 0, none⟩ 1 (.slice (some ⟨b1, 0, none⟩) 1 c1) (.bool q) rfl HNEW.out (by simp [Value.oneCell']) hl ?_); intro v6 w6 ho6 hg6 hor6; obtain ⟨g6, off6, c6, rfl, hc6⟩ := ho6.form; obtain ⟨⟨e0, ef⟩, hm7, hk7, hN7, hN8, hor7⟩ := HMID.out _ _ ho6 hg6 hor6; have HM7 := Lib.hid hm7; have HK7 := Lib.hid hk7; have HN8 := Lib.hid hN8; have HOR := Lib.hid hor7; clear ho6 hg6 hor6 hm7 hk7 hN7 hN8 hor7))
  all_goals
    clear d0 d1 d2 df HMID HOWN HNEW e0 ef hD1 hD2
    generalize w6.setCell ⟨D, 1, none⟩ (.slice (some ⟨g6, off6, none⟩) (L.length + 1) c6) = w7 at *
    obtain ⟨⟨d0, d1, d2⟩, df⟩ := HM7.out.cells
    have hg6 : (Value.slice (some (⟨g6, off6, none⟩ : Addr)) (L.length + 1) c6).ownBlock = some g6 := rfl
    have hlw : ∀ g, (Value.slice A L.length c).ownBlock = some g → g < w.heap.size := fun g e => (HM.out.rows.lt g e).1
    have hgN : g6 ≠ w.heap.size + 1 := by
      rcases HOR.out with e | ⟨g, e, hg⟩
      · have := hlw g6 (e.symm.trans hg6); omega
      · rw [hg6] at e; injection e with e; omega
    have hDN : w.heap.size + 1 ≠ D := by omega
    have n0 : w7.cell? ⟨w.heap.size + 1, 0, none⟩ = some (.slice none 0 0) := cell_of_row _ _ 0 _ _ _ HN8.out
    have n1 : w7.cell? ⟨w.heap.size + 1, 1, none⟩ = some (.bool false) := cell_of_row _ _ 1 _ _ _ HN8.out
    have nf : ∀ k, w7.frozen? ⟨w.heap.size + 1, k, none⟩ = false := fun k => by have := HN8.out; simp [World.frozen?, this]
    have HOR2 : Hid ((Value.slice (some (⟨g6, off6, none⟩ : Addr)) (L.length + 1) c6).ownBlock = (Value.slice A L.length c).ownBlock ∨ ∀ g, (Value.slice (some (⟨g6, off6, none⟩ : Addr)) (L.length + 1) c6).ownBlock = some g → w.heap.size ≤ g) := Lib.hid (HOR.out.imp id fun ⟨g, e, hg⟩ g' e' => by rw [e] at e'; injection e' with e'; omega)
    by_cases hfit : L.length + 1 ≤ room
    · have hle : (L.length : Int) + 1 ≤ room := by omega
      have HFIN : Hid (∀ x y, RPushPost P w D (.slice A L.length c) room gone L r (.returned (.tuple #[.agg #[.slice none 0 0, .bool false], .bool false])) ((w7.drew.setCell ⟨w.heap.size + 1, 0, none⟩ x).setCell ⟨w.heap.size + 1, 1, none⟩ y)) := Lib.hid fun x y => by
        obtain ⟨h1, h2⟩ := HM7.out.after (w.heap.size + 1) HN8.out hDN (fun g e => by rw [hg6] at e; injection e with e; omega) x y
        refine ⟨some ⟨g6, off6, none⟩, c6, gone, L ++ [r], _, _, _, false, rfl, by rw [List.length_append]; exact h1, HK7.out.trans h2 (fun i hi e => by omega), by rw [List.length_append]; exact HOR2.out, .inl ⟨hfit, rfl, rfl, rfl, rfl, rfl⟩⟩
      clear HM HM7 HK7 HN8 HOR HOR2 hlw
      go_wp2_with fail
      go_region
      go_wp2
      refine bodyPost_ret (v := .tuple #[.agg #[.slice none 0 0, .bool false], .bool false]) (by simp [results, Try.results18, go_sem, n0, n1]) rfl ?_
      exact HFIN.out _ _
    · have hle : ¬ (L.length : Int) + 1 ≤ room := by omega
      have HM8 : Hid (RF P w7.drew D (.slice (some ⟨g6, off6, none⟩) (L.length + 1) c6) room gone (L ++ [r]) (xs ++ [.slice (some ⟨b1, 0, none⟩) 1 c1, .bool q])) := Lib.hid (HM7.out.past (Below.refl _ _).drew)
      have HN9 : Hid (w7.drew.heap[w.heap.size + 1]? = some (.cells #[.slice none 0 0, .bool false] 43 (0, 0))) := Lib.hid HN8.out
      have HK8 : Hid (KB (fun i => i = D ∨ some i = (Value.slice A L.length c).ownBlock) w w7.drew) := Lib.hid (HK7.out.trans (KB.of_below (S := fun _ => False) (Below.refl _ _).drew) fun _ _ e => e.elim)
      go_wp2_with fail
      go_region
      clear HM7 HN8 HK7 d0 d1 d2 df n0 n1 nf HOR HOR2
      generalize w7.drew = w8 at *
      obtain ⟨h0, T, hsplit⟩ : ∃ h0 T, L ++ [r] = h0 :: T := by cases L <;> exact ⟨_, _, rfl⟩
      obtain ⟨a, b, ys, hxs⟩ : ∃ a b ys, xs ++ [.slice (some ⟨b1, 0, none⟩) 1 c1, .bool q] = a :: b :: ys := by
        have := HM8.out.each
        rw [hsplit] at this
        match xs ++ [.slice (some ⟨b1, 0, none⟩) 1 c1, .bool q], this with
        | a :: b :: ys, _ => exact ⟨a, b, ys, rfl⟩
        | [_], h => cases h
        | [], h => exact h.elim
      have hTl : L.length = T.length := by have := congrArg List.length hsplit; simp at this; omega
      have hM9 : RF P w8 D (.slice (some ⟨g6, off6, none⟩) (L.length + 1) c6) room gone (h0 :: T) (a :: b :: ys) := by have := HM8.out; rwa [hsplit, hxs] at this
      have hr0 := hM9.each.1
      obtain ⟨b0, c0, rfl, rfl, _⟩ := hr0.cells
      have hrow : OR w8 (.slice (some ⟨g6, off6, none⟩) (L.length + 1) c6) (L.length + 1) (.slice (some ⟨b0, 0, none⟩) 1 c0 :: .bool h0.2 :: ys) := by have := hM9.rows; rw [hTl]; rwa [hTl] at this
      have hlt6 : g6 < w8.heap.size := (hrow.lt g6 rfl).1
      have HEV := Lib.hid (fun (w9 : World) (v9 : Value) (hg : ((w8.alloc (.cells #[.slice (some ⟨b0, 0, none⟩) 1 c0, .bool h0.2] 43)).alloc (.cells #[] 43)).grownBy w9 (some (w8.heap.size + 1))) (ho : w9.ownsRow w8.heap.size 43 2 v9 (0 + L.length) ([] ++ ys)) => hM9.evicted HN9.out hDN hr0 hM9.each.2 hg hTl ho (IntKind.u64.wrap (gone + 1)))
      have HOWN := Lib.hid (own_empty2 w8 (.cells #[.slice (some ⟨b0, 0, none⟩) 1 c0, .bool h0.2] 43))
      have HONE := Lib.hid (hM9.each.2.ones)
      have hyl : ys.length = L.length * 2 := by have := hrow.1; simp at this; omega
      have HYL := Lib.hid hyl
      have HPO : Hid (∀ (A9 : Option Addr) (c9 : Nat) (wf : World), RF P wf D (.slice A9 L.length c9) room (IntKind.u64.wrap (gone + 1)) T ys → RV P wf (.slice (some ⟨b0, 0, none⟩) 1 c0) (.bool h0.2) h0 → KB (fun i => i = D ∨ i = w.heap.size + 1) w8 wf → (∀ g, (Value.slice A9 L.length c9).ownBlock = some g → w8.heap.size ≤ g) → RPushPost P w D (.slice A L.length c) room gone L r (.returned (.tuple #[.agg #[.slice (some ⟨b0, 0, none⟩) 1 c0, .bool h0.2], .bool true])) wf) := Lib.hid fun A9 c9 wf q1 q2 q3 q4 => by
        refine ⟨A9, c9, IntKind.u64.wrap (gone + 1), T, ys, _, _, true, rfl, by rw [← hTl]; exact q1, HK8.out.trans q3 (fun i hi e => by rcases e with e | e; exact .inl e; omega), ?_, .inr ⟨by omega, rfl, by rw [hsplit]; rfl, rfl, by rw [hsplit]; exact q2⟩⟩
        rw [← hTl]
        exact .inr fun g e => Nat.le_trans HK8.out.size (q4 g e)
      have hnp : 0 + L.length ≤ maxLen := by unfold maxLen; omega
      have hnb : (0 + L.length) * 32 ≤ 140737488355328 := by omega
      have hbs : w8.heap.size ≤ ((w8.alloc (.cells #[.slice (some ⟨b0, 0, none⟩) 1 c0, .bool h0.2] 43)).alloc (.cells #[] 43)).heap.size := by simp only [World.size_alloc]; omega
      obtain ⟨i0, hi0, hz0, hz1, hz2⟩ := info_row
      obtain ⟨⟨d0, d1, d2⟩, df⟩ := hM9.cells
      have hlt8 : D < w8.heap.size := hM9.lt
      have hD1 : D < w8.heap.size + 1 := by omega
      have hD2 : D < w8.heap.size + 1 + 1 := by omega
      have hg1 : g6 < w8.heap.size + 1 := by omega
      have e0 : w8.cell? ⟨g6, off6, none⟩ = some (.slice (some ⟨b0, 0, none⟩) 1 c0) := (hrow.cell (j := 0) rfl).1
      have e1 : w8.cell? ⟨g6, off6 + 1, none⟩ = some (.bool h0.2) := (hrow.cell (j := 1) rfl).1
      have hj0 : (0 : Int) < (L.length : Int) + 1 := by omega
      have hj1 : (1 : Int) ≤ (L.length : Int) + 1 := by omega
      have hj2 : 1 ≤ L.length + 1 := by omega
      by_cases hc1 : c6 = 1
      · subst hc1
        have hL0 : L.length = 0 := by omega
        have hy0 : ys = [] := List.eq_nil_of_length_eq_zero (by omega)
        subst hy0
        obtain rfl : L = [] := List.eq_nil_of_length_eq_zero hL0
        clear HM HM8 HN9 HK8 hlw hM9 hr0 hsplit hxs hTl hyl hL0 hrow HYL
        generalize h0.2 = q0 at *
        generalize w.heap.size = N at *
        go_wp2_with (at_builtin; go_must (refine wpList_append_own _ rfl _ _ 29 rfl w8.heap.size 43 i0 _ 2 32 Try.underlying29 hi0 hz0 hz1 hz2 rfl (by decide) (.slice (some ⟨w8.heap.size + 1, 0, none⟩) 0 0) 0 [] rfl HOWN.out ⟨g6, off6, none⟩ 0 0 [] rfl rfl (fun j u hu => by simp at hu) HONE.out (by decide) (by decide) hbs ?_; intro v9 w9 hown9 hgrow9 _; obtain ⟨⟨m0, m1⟩, ⟨k0, k1, kf⟩, ⟨x0, x1, xf⟩, A9, c9, rfl, HZ⟩ := HEV.out _ _ hgrow9 hown9; clear hown9 hgrow9))
        have hz := HZ.out
        unfold evW at hz
        obtain ⟨⟨z1, z2, z3⟩, ⟨z4, z5⟩, z6⟩ := hz
        refine bodyPost_ret (v := .tuple #[.agg #[.slice (some ⟨b0, 0, none⟩) 1 c0, .bool q0], .bool true]) ?_ rfl (HPO.out _ _ _ z1 z2 z3 z6)
        exact res_row Try.results18 _ _ (N + 1) _ _ true rfl rfl z4 z5
      · have HNY : Hid (∀ W, Below w8.heap.size w8 W → ∀ j u, ys[j]? = some u → W.cell? ((⟨g6, off6 + 2, none⟩ : Addr).add j) = some u) := Lib.hid fun W hW j u hu => by
          rw [Addr.add_mid]
          have := (hrow.cell (j := j + 2) (u := u) (by simpa using hu)).1
          rw [show off6 + (j + 2) = off6 + 2 + j from by omega] at this
          exact (hW.cell (p := ⟨g6, off6 + 2 + j, none⟩) hlt6).trans this
        clear HM HM8 HN9 HK8 hlw hM9 hr0 hsplit hxs hTl hyl hrow
        generalize h0.2 = q0 at *
        generalize w.heap.size = N at *
        go_wp2_with (at_builtin; go_must (refine wpList_append_own _ rfl _ _ 29 rfl w8.heap.size 43 i0 _ 2 32 Try.underlying29 hi0 hz0 hz1 hz2 rfl (by decide) (.slice (some ⟨w8.heap.size + 1, 0, none⟩) 0 0) 0 [] rfl HOWN.out ⟨g6, off6 + 2, none⟩ L.length (c6 - 1) ys rfl HYL.out (HNY.out _ (belA (belA (Below.refl _ _) _) _)) HONE.out hnp hnb hbs ?_; intro v9 w9 hown9 hgrow9 _; obtain ⟨⟨m0, m1⟩, ⟨k0, k1, kf⟩, ⟨x0, x1, xf⟩, A9, c9, rfl, HZ⟩ := HEV.out _ _ hgrow9 hown9; clear hown9 hgrow9))
        have hz := HZ.out
        unfold evW at hz
        obtain ⟨⟨z1, z2, z3⟩, ⟨z4, z5⟩, z6⟩ := hz
        refine bodyPost_ret (v := .tuple #[.agg #[.slice (some ⟨b0, 0, none⟩) 1 c0, .bool q0], .bool true]) ?_ rfl (HPO.out _ _ _ z1 z2 z3 z6)
        exact res_row Try.results18 _ _ (N + 1) _ _ true rfl rfl z4 z5
end Go.Proofs.Ytehfejgalemhaaa
