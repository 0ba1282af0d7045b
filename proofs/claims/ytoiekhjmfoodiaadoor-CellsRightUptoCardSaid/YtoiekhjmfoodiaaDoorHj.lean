/- Mark's closure where marks are laid. -/
import Derived.Test.YtoiekhjmfoodiaaDoorHi
import Derived.Deep.RegionHeld3
import Derived.Test.YtoiekhjmfoodiaaDoorHg
import Derived.Laws.Cover4
namespace Go.Proofs.YtoiekhjmfoodiaaDoor
open Go Go.RowKit

theorem more_at {w : World} {g x : Nat} {M : List CC} (h : MC w g M) (hx : x < M.length) (s : ByteArray) : MC (w.setCell ⟨g, x * 8 + 1, none⟩ (.string ((Ac M x).m ++ s))) g (M.set x (moreC (Ac M x) s)) := by
  obtain ⟨cur, hc⟩ := h.row
  have e : ∀ o, o ≠ x * 8 + 1 → (w.setCell ⟨g, x * 8 + 1, none⟩ (.string ((Ac M x).m ++ s))).cell? ⟨g, o, none⟩ = w.cell? ⟨g, o, none⟩ := fun o ho =>
    World.cell?_setCell_other _ ⟨g, x * 8 + 1, none⟩ ⟨g, o, none⟩ _ (fun he => ho (congrArg Addr.off he).symm)
  refine ⟨⟨_, heap_setCell_same w g _ cur _ _ hc⟩, fun k hk => ?_⟩
  have hk' : k < M.length := by simpa using hk
  obtain ⟨h0, h1, h2, h3, h4, h5, h6, h7⟩ := h.at' k hk'
  by_cases hkx : k = x
  · subst hkx
    have e1 : Ac (M.set k (moreC (Ac M k) s)) k = moreC (Ac M k) s := by unfold Ac; rw [List.getElem?_set_self hk']; rfl
    rw [e1]
    exact ⟨(e _ (by omega)).trans h0, World.cell?_setCell_same _ _ _ h1, (e _ (by omega)).trans h2, (e _ (by omega)).trans h3, (e _ (by omega)).trans h4, (e _ (by omega)).trans h5, (e _ (by omega)).trans h6, (e _ (by omega)).trans h7⟩
  · have e1 : Ac (M.set x (moreC (Ac M x) s)) k = Ac M k := by unfold Ac; rw [List.getElem?_set_ne (fun h => hkx h.symm)]
    rw [e1]
    exact ⟨(e _ (by omega)).trans h0, (e _ (by omega)).trans h1, (e _ (by omega)).trans h2, (e _ (by omega)).trans h3, (e _ (by omega)).trans h4, (e _ (by omega)).trans h5, (e _ (by omega)).trans h6, (e _ (by omega)).trans h7⟩
theorem far8 (w : World) (p0 p1 p2 p3 p4 p5 p6 p7 : Nat × Value) (g : Nat) (a : Addr) (h : g ≠ a.block) : ((((((((w.setCell ⟨g, p0.1, none⟩ p0.2).setCell ⟨g, p1.1, none⟩ p1.2).setCell ⟨g, p2.1, none⟩ p2.2).setCell ⟨g, p3.1, none⟩ p3.2).setCell ⟨g, p4.1, none⟩ p4.2).setCell ⟨g, p5.1, none⟩ p5.2).setCell ⟨g, p6.1, none⟩ p6.2).setCell ⟨g, p7.1, none⟩ p7.2).cell? a = w.cell? a := by
  have e : ∀ (W : World) (p : Nat × Value), (W.setCell ⟨g, p.1, none⟩ p.2).cell? a = W.cell? a := fun W p => World.cell?_setCell_far W _ a _ h
  rw [e, e, e, e, e, e, e, e]
theorem set8_far (w : World) (g o : Nat) (x : CC) (a : Addr) (h : g ≠ a.block) : (set8 w g o x).cell? a = w.cell? a :=
  far8 w (_, _) (_, _) (_, _) (_, _) (_, _) (_, _) (_, _) (_, _) g a h
theorem cell_lt {w : World} {p o : Nat} {v : Value} (h : w.cell? ⟨p, o, none⟩ = some v) : p < w.heap.size := by
  by_cases hl : p < w.heap.size
  · exact hl
  · rw [World.cell?, Array.getElem?_eq_none (show w.heap.size ≤ p by omega)] at h
    cases h
set_option maxRecDepth 100000 in
set_option maxHeartbeats 4000000 in
theorem markFn_p (g n c x P1 P2 P3 : Nat) (M : List CC) (r : Int) (s : ByteArray) (hn : n = M.length) (hx : x < n) (w : World) (hz : ofZ r = 0) (h0 : ((Ac M x).r == 0) = false) (hsz : (Ac M x).m.size + s.size ≤ 32) (h1 : ((Ac M x).h == 1) = false) (h2 : ((Ac M x).h == 2) = false) (hT : WT w) (h : MC w g M) (hp : MarkC w P1 P2 P3 x r s) :
    Calls Tryd.prog 63 #[.slice (some ⟨g, 0, none⟩) n c, .pointer (some ⟨P1, 0, none⟩), .pointer (some ⟨P2, 0, none⟩), .pointer (some ⟨P3, 0, none⟩)] w fun e w' => e = .returned (.tuple #[]) ∧ MC w' g (M.set x (moreC (Ac M x) s)) ∧ KG g w w' := by
  have HW := Lib.hid (widthOf_any r w.drew ⟨hT.1, hT.2⟩)
  rw [hz] at HW
  have c1 := cell_of_row _ _ 0 _ _ _ hp.h1
  have c2 := cell_of_row _ _ 0 _ _ _ hp.h2
  have HM := Lib.hid (fun W (hb : Below w.drew.heap.size w.drew W) => (And.intro (h.past (belD hb)) ⟨(KG.refl g w).past (belD hb), hp.past (belD hb)⟩ : MC W g M ∧ KG g w W ∧ MarkC W P1 P2 P3 x r s))
  have hxn : (x : Int) < n := by have := hx; omega
  have HX := Lib.hid (show x < M.length by omega)
  have hw1 : IntKind.i64.wrap (((Ac M x).m.size : Int) + s.size) = ((Ac M x).m.size : Int) + s.size := IntWalk.i64_in _ (by omega)
  have hd : decide ((32 : Int) < ((Ac M x).m.size : Int) + s.size) = false := decide_eq_false (by omega)
  have hsum : ¬ (9223372036854775807 < (Ac M x).m.size + s.size) := by omega
  have HM4 : Hid (∀ (w3 W : World), MC w3 g M → KG g w w3 → MarkC w3 P1 P2 P3 x r s → Below w3.heap.size w3 W → MC (W.setCell ⟨g, x * 8 + 1, none⟩ (.string ((Ac M x).m ++ s))).drew g (M.set x (moreC (Ac M x) s)) ∧ KG g w (W.setCell ⟨g, x * 8 + 1, none⟩ (.string ((Ac M x).m ++ s))).drew ∧ (W.setCell ⟨g, x * 8 + 1, none⟩ (.string ((Ac M x).m ++ s))).drew.cell? ⟨P1, 0, none⟩ = some (.int .i64 x)) := Lib.hid fun w3 W hm hk hpp hb => by
    refine ⟨(more_at (hm.past hb) (by omega) s).past (Below.refl _ _).drew, ((hk.past hb).set _ _).past (Below.refl _ _).drew, ?_⟩
    have hne : P1 ≠ g := fun e => by
      obtain ⟨cur, hc⟩ := h.row
      have := hp.h1
      rw [e, hc] at this
      injection this with this
      injection this with _ h1 _
      exact absurd h1 (by decide)
    refine (World.cell?_setCell_far _ _ _ _ (fun e => hne e.symm)).trans ?_
    exact cell_of_row _ _ 0 _ _ _ ((hpp.past hb).h1)
  clear h hp hT hz hn hsz
  go_enter Tryd.func63, Tryd.ntmps63
  go_wp2
  refine wp_region_noPanic ?_
  refine seg_start (by kernel_rfl) ?_
  refine seg_quiet 0 1 20 rfl (by kernel_rfl) (by kernel_rfl) (by kernel_rfl) (by kernel_rfl) (by kernel_rfl) (by kernel_rfl) ?_
  simp only [List.take_succ_cons, List.take_zero, List.drop_zero]
  ((with_reducible refine wpStill_step (fun K hK => ?_)); go_simp; (with_reducible refine hK _ ?_); clear hK K)
  with_reducible refine wpStill_nil ?_
  refine seg_one 1 19 rfl (by kernel_rfl) (fun K hK => ?_)
  go_simp
  (with_reducible refine (HW.out).mono ?_)
  rintro e3 w3 ⟨rfl, ht⟩
  (with_reducible refine hK.out _ _ ?_)
  clear hK K HW
  obtain ⟨HM3, HK3, HP3⟩ := HM.out _ ht
  have HM3 := Lib.hid HM3
  have HK3 := Lib.hid HK3
  have HP3 := Lib.hid HP3
  clear ht HM
  obtain ⟨a0, a1, a2, a3, a4, a5, a6, a7⟩ := HM3.out.at' x HX.out
  have c3 := cell_of_row _ _ 0 _ _ _ HP3.out.h3
  have hfr := HM3.out.free
  have hgl := HM3.out.lt
  generalize hy : Ac M x = y at *
  have HY := Lib.hid hy
  clear hy
  refine seg_quiet 2 18 1 rfl (by kernel_rfl) (by kernel_rfl) (by kernel_rfl) (by kernel_rfl) (by kernel_rfl) (by kernel_rfl) ?_
  simp only [List.take_succ_cons, List.take_zero, List.drop_succ_cons, List.drop_zero]
  ((with_reducible refine wpStill_step (fun K hK => ?_)); go_simp; (with_reducible refine hK _ ?_); clear hK K)
  ((with_reducible refine wpStill_step (fun K hK => ?_)); go_simp; (with_reducible refine hK _ ?_); clear hK K)
  ((with_reducible refine wpStill_step (fun K hK => ?_)); go_simp; (with_reducible refine hK _ ?_); clear hK K)
  ((with_reducible refine wpStill_step (fun K hK => ?_)); go_simp; (with_reducible refine hK _ ?_); clear hK K)
  ((with_reducible refine wpStill_step (fun K hK => ?_)); go_simp; (with_reducible refine hK _ ?_); clear hK K)
  ((with_reducible refine wpStill_step (fun K hK => ?_)); go_simp; (with_reducible refine hK _ ?_); clear hK K)
  ((with_reducible refine wpStill_step (fun K hK => ?_)); go_simp; (with_reducible refine hK _ ?_); clear hK K)
  ((with_reducible refine wpStill_step (fun K hK => ?_)); go_simp; (with_reducible refine hK _ ?_); clear hK K)
  ((with_reducible refine wpStill_step (fun K hK => ?_)); go_simp; (with_reducible refine hK _ ?_); clear hK K)
  ((with_reducible refine wpStill_step (fun K hK => ?_)); go_simp; (with_reducible refine hK _ ?_); clear hK K)
  ((with_reducible refine wpStill_step (fun K hK => ?_)); go_simp; (with_reducible refine hK _ ?_); clear hK K)
  ((with_reducible refine wpStill_step (fun K hK => ?_)); go_simp; (with_reducible refine hK _ ?_); clear hK K)
  ((with_reducible refine wpStill_step (fun K hK => ?_)); go_simp; (with_reducible refine hK _ ?_); clear hK K)
  ((with_reducible refine wpStill_step (fun K hK => ?_)); go_simp; (with_reducible refine hK _ ?_); clear hK K)
  ((with_reducible refine wpStill_step (fun K hK => ?_)); go_simp; (with_reducible refine hK _ ?_); clear hK K)
  ((with_reducible refine wpStill_step (fun K hK => ?_)); go_simp; (with_reducible refine hK _ ?_); clear hK K)
  ((with_reducible refine wpStill_step (fun K hK => ?_)); go_simp; (with_reducible refine hK _ ?_); clear hK K)
  ((with_reducible refine wpStill_step (fun K hK => ?_)); go_simp; (with_reducible refine hK _ ?_); clear hK K)
  with_reducible refine wpStill_nil ?_
  refine seg_one 20 0 rfl (by kernel_rfl) (fun K hK => ?_)
  go_simp
  (with_reducible refine hK.out _ _ ?_)
  clear hK K
  refine seg_end (by kernel_rfl) ?_
  refine NoPanic.normal ?_
  go_wp2
  refine wp_region_noPanic ?_
  refine seg_start (by kernel_rfl) ?_
  refine seg_quiet 0 8 1 rfl (by kernel_rfl) (by kernel_rfl) (by kernel_rfl) (by kernel_rfl) (by kernel_rfl) (by kernel_rfl) ?_
  simp only [List.take_succ_cons, List.take_zero, List.drop_zero]
  ((with_reducible refine wpStill_step (fun K hK => ?_)); go_simp; (with_reducible refine hK _ ?_); clear hK K)
  ((with_reducible refine wpStill_step (fun K hK => ?_)); go_simp; (with_reducible refine hK _ ?_); clear hK K)
  ((with_reducible refine wpStill_step (fun K hK => ?_)); go_simp; (with_reducible refine hK _ ?_); clear hK K)
  ((with_reducible refine wpStill_step (fun K hK => ?_)); go_simp; (with_reducible refine hK _ ?_); clear hK K)
  ((with_reducible refine wpStill_step (fun K hK => ?_)); go_simp; (with_reducible refine hK _ ?_); clear hK K)
  ((with_reducible refine wpStill_step (fun K hK => ?_)); go_simp; (with_reducible refine hK _ ?_); clear hK K)
  ((with_reducible refine wpStill_step (fun K hK => ?_)); go_simp; (with_reducible refine hK _ ?_); clear hK K)
  ((with_reducible refine wpStill_step (fun K hK => ?_)); go_simp; (with_reducible refine hK _ ?_); clear hK K)
  with_reducible refine wpStill_nil ?_
  refine seg_one 8 0 rfl (by kernel_rfl) (fun K hK => ?_)
  go_simp
  (with_reducible refine hK.out _ _ ?_)
  clear hK K
  refine seg_end (by kernel_rfl) ?_
  refine NoPanic.normal ?_
  have HM5 := Lib.hid (HM4.out _ _ HM3.out HK3.out HP3.out (Below.refl _ _))
  clear HM4 a0 a1 a2 a3 a4 a5 a6 a7 c3 hfr hgl
  generalize (w3.setCell ⟨g, x * 8 + 1, none⟩ (.string (y.m ++ s))).drew = w4 at *
  obtain ⟨HMM, HKK, cP⟩ := HM5.out
  have HMM := Lib.hid HMM
  have HKK := Lib.hid HKK
  clear HM5
  obtain ⟨b0, b1, b2, b3, b4, b5, b6, b7⟩ := HMM.out.at' x (by rw [List.length_set]; exact HX.out)
  rw [show Ac (M.set x (moreC y s)) x = moreC y s by unfold Ac; rw [List.getElem?_set_self HX.out]; rfl] at b0 b1 b2 b3 b4 b5 b6 b7
  simp only [moreC] at b0 b1 b2 b3 b4 b5 b6 b7
  go_wp2
  go_end0
  exact ⟨rfl, by rw [HY.out]; exact HMM.out, HKK.out⟩
set_option maxRecDepth 100000 in
set_option maxHeartbeats 4000000 in
theorem markFn_a (g n c x P1 P2 P3 : Nat) (M : List CC) (r : Int) (s : ByteArray) (hn : n = M.length) (hx : x < n) (w : World) (hz : ofZ r = 0) (h0 : ((Ac M x).r == 0) = false) (hsz : (Ac M x).m.size + s.size ≤ 32) (h1 : (Ac M x).h = 1) (h2 : x + 1 < n) (hl : n ≤ 1000) (hT : WT w) (h : MC w g M) (hp : MarkC w P1 P2 P3 x r s) :
    Calls Tryd.prog 63 #[.slice (some ⟨g, 0, none⟩) n c, .pointer (some ⟨P1, 0, none⟩), .pointer (some ⟨P2, 0, none⟩), .pointer (some ⟨P3, 0, none⟩)] w fun e w' => e = .returned (.tuple #[]) ∧ MC w' g ((M.set x (moreC (Ac M x) s)).set (x + 1) (halfC (moreC (Ac M x) s) 2)) ∧ KG g w w' := by
  have HI : Hid (IntKind.i64.wrap ((x : Int) + 1) = ((x + 1 : Nat) : Int)) := Lib.hid (by rw [IntWalk.i64_in _ (by omega)]; omega)
  have HW := Lib.hid (widthOf_any r w.drew ⟨hT.1, hT.2⟩)
  rw [hz] at HW
  have c1 := cell_of_row _ _ 0 _ _ _ hp.h1
  have c2 := cell_of_row _ _ 0 _ _ _ hp.h2
  have HM := Lib.hid (fun W (hb : Below w.drew.heap.size w.drew W) => (And.intro (h.past (belD hb)) ⟨(KG.refl g w).past (belD hb), hp.past (belD hb)⟩ : MC W g M ∧ KG g w W ∧ MarkC W P1 P2 P3 x r s))
  have hxn : (x : Int) < n := by have := hx; omega
  have HX := Lib.hid (show x < M.length by omega)
  have hw1 : IntKind.i64.wrap (((Ac M x).m.size : Int) + s.size) = ((Ac M x).m.size : Int) + s.size := IntWalk.i64_in _ (by omega)
  have hd : decide ((32 : Int) < ((Ac M x).m.size : Int) + s.size) = false := decide_eq_false (by omega)
  have hsum : ¬ (9223372036854775807 < (Ac M x).m.size + s.size) := by omega
  have HM4 : Hid (∀ (w3 W : World), MC w3 g M → KG g w w3 → MarkC w3 P1 P2 P3 x r s → Below w3.heap.size w3 W → MC (W.setCell ⟨g, x * 8 + 1, none⟩ (.string ((Ac M x).m ++ s))).drew g (M.set x (moreC (Ac M x) s)) ∧ KG g w (W.setCell ⟨g, x * 8 + 1, none⟩ (.string ((Ac M x).m ++ s))).drew ∧ (W.setCell ⟨g, x * 8 + 1, none⟩ (.string ((Ac M x).m ++ s))).drew.cell? ⟨P1, 0, none⟩ = some (.int .i64 x)) := Lib.hid fun w3 W hm hk hpp hb => by
    refine ⟨(more_at (hm.past hb) (by omega) s).past (Below.refl _ _).drew, ((hk.past hb).set _ _).past (Below.refl _ _).drew, ?_⟩
    have hne : P1 ≠ g := fun e => by
      obtain ⟨cur, hc⟩ := h.row
      have := hp.h1
      rw [e, hc] at this
      injection this with this
      injection this with _ h1 _
      exact absurd h1 (by decide)
    refine (World.cell?_setCell_far _ _ _ _ (fun e => hne e.symm)).trans ?_
    exact cell_of_row _ _ 0 _ _ _ ((hpp.past hb).h1)
  have HO := Lib.hid (otherHalf_left (moreC (Ac M x) s) h1)
  simp only [moreC] at HO
  have HNE := Lib.hid (show x + 1 ≠ x by omega)
  have HPG : Hid (P1 ≠ g) := Lib.hid fun e => by
    obtain ⟨cur, hc⟩ := h.row
    have := hp.h1
    rw [e, hc] at this
    injection this with this
    injection this with _ h1 _
    exact absurd h1 (by decide)
  have HN := Lib.hid (show x + 1 < n by omega)
  have HNM := Lib.hid (show x + 1 < M.length by omega)
  clear h hp hT hz hn hsz hl
  go_enter Tryd.func63, Tryd.ntmps63
  go_wp2
  refine wp_region_noPanic ?_
  refine seg_start (by kernel_rfl) ?_
  refine seg_quiet 0 1 20 rfl (by kernel_rfl) (by kernel_rfl) (by kernel_rfl) (by kernel_rfl) (by kernel_rfl) (by kernel_rfl) ?_
  simp only [List.take_succ_cons, List.take_zero, List.drop_zero]
  ((with_reducible refine wpStill_step (fun K hK => ?_)); go_simp; (with_reducible refine hK _ ?_); clear hK K)
  with_reducible refine wpStill_nil ?_
  refine seg_one 1 19 rfl (by kernel_rfl) (fun K hK => ?_)
  go_simp
  (with_reducible refine (HW.out).mono ?_)
  rintro e3 w3 ⟨rfl, ht⟩
  (with_reducible refine hK.out _ _ ?_)
  clear hK K HW
  obtain ⟨HM3, HK3, HP3⟩ := HM.out _ ht
  have HM3 := Lib.hid HM3
  have HK3 := Lib.hid HK3
  have HP3 := Lib.hid HP3
  clear ht HM
  obtain ⟨a0, a1, a2, a3, a4, a5, a6, a7⟩ := HM3.out.at' x HX.out
  have c3 := cell_of_row _ _ 0 _ _ _ HP3.out.h3
  have hfr := HM3.out.free
  have hgl := HM3.out.lt
  generalize hy : Ac M x = y at *
  have HY := Lib.hid hy
  clear hy
  refine seg_quiet 2 18 1 rfl (by kernel_rfl) (by kernel_rfl) (by kernel_rfl) (by kernel_rfl) (by kernel_rfl) (by kernel_rfl) ?_
  simp only [List.take_succ_cons, List.take_zero, List.drop_succ_cons, List.drop_zero]
  ((with_reducible refine wpStill_step (fun K hK => ?_)); go_simp; (with_reducible refine hK _ ?_); clear hK K)
  ((with_reducible refine wpStill_step (fun K hK => ?_)); go_simp; (with_reducible refine hK _ ?_); clear hK K)
  ((with_reducible refine wpStill_step (fun K hK => ?_)); go_simp; (with_reducible refine hK _ ?_); clear hK K)
  ((with_reducible refine wpStill_step (fun K hK => ?_)); go_simp; (with_reducible refine hK _ ?_); clear hK K)
  ((with_reducible refine wpStill_step (fun K hK => ?_)); go_simp; (with_reducible refine hK _ ?_); clear hK K)
  ((with_reducible refine wpStill_step (fun K hK => ?_)); go_simp; (with_reducible refine hK _ ?_); clear hK K)
  ((with_reducible refine wpStill_step (fun K hK => ?_)); go_simp; (with_reducible refine hK _ ?_); clear hK K)
  ((with_reducible refine wpStill_step (fun K hK => ?_)); go_simp; (with_reducible refine hK _ ?_); clear hK K)
  ((with_reducible refine wpStill_step (fun K hK => ?_)); go_simp; (with_reducible refine hK _ ?_); clear hK K)
  ((with_reducible refine wpStill_step (fun K hK => ?_)); go_simp; (with_reducible refine hK _ ?_); clear hK K)
  ((with_reducible refine wpStill_step (fun K hK => ?_)); go_simp; (with_reducible refine hK _ ?_); clear hK K)
  ((with_reducible refine wpStill_step (fun K hK => ?_)); go_simp; (with_reducible refine hK _ ?_); clear hK K)
  ((with_reducible refine wpStill_step (fun K hK => ?_)); go_simp; (with_reducible refine hK _ ?_); clear hK K)
  ((with_reducible refine wpStill_step (fun K hK => ?_)); go_simp; (with_reducible refine hK _ ?_); clear hK K)
  ((with_reducible refine wpStill_step (fun K hK => ?_)); go_simp; (with_reducible refine hK _ ?_); clear hK K)
  ((with_reducible refine wpStill_step (fun K hK => ?_)); go_simp; (with_reducible refine hK _ ?_); clear hK K)
  ((with_reducible refine wpStill_step (fun K hK => ?_)); go_simp; (with_reducible refine hK _ ?_); clear hK K)
  ((with_reducible refine wpStill_step (fun K hK => ?_)); go_simp; (with_reducible refine hK _ ?_); clear hK K)
  with_reducible refine wpStill_nil ?_
  refine seg_one 20 0 rfl (by kernel_rfl) (fun K hK => ?_)
  go_simp
  (with_reducible refine hK.out _ _ ?_)
  clear hK K
  refine seg_end (by kernel_rfl) ?_
  refine NoPanic.normal ?_
  go_wp2
  refine wp_region_noPanic ?_
  refine seg_start (by kernel_rfl) ?_
  refine seg_quiet 0 8 1 rfl (by kernel_rfl) (by kernel_rfl) (by kernel_rfl) (by kernel_rfl) (by kernel_rfl) (by kernel_rfl) ?_
  simp only [List.take_succ_cons, List.take_zero, List.drop_zero]
  ((with_reducible refine wpStill_step (fun K hK => ?_)); go_simp; (with_reducible refine hK _ ?_); clear hK K)
  ((with_reducible refine wpStill_step (fun K hK => ?_)); go_simp; (with_reducible refine hK _ ?_); clear hK K)
  ((with_reducible refine wpStill_step (fun K hK => ?_)); go_simp; (with_reducible refine hK _ ?_); clear hK K)
  ((with_reducible refine wpStill_step (fun K hK => ?_)); go_simp; (with_reducible refine hK _ ?_); clear hK K)
  ((with_reducible refine wpStill_step (fun K hK => ?_)); go_simp; (with_reducible refine hK _ ?_); clear hK K)
  ((with_reducible refine wpStill_step (fun K hK => ?_)); go_simp; (with_reducible refine hK _ ?_); clear hK K)
  ((with_reducible refine wpStill_step (fun K hK => ?_)); go_simp; (with_reducible refine hK _ ?_); clear hK K)
  ((with_reducible refine wpStill_step (fun K hK => ?_)); go_simp; (with_reducible refine hK _ ?_); clear hK K)
  with_reducible refine wpStill_nil ?_
  refine seg_one 8 0 rfl (by kernel_rfl) (fun K hK => ?_)
  go_simp
  (with_reducible refine hK.out _ _ ?_)
  clear hK K
  refine seg_end (by kernel_rfl) ?_
  refine NoPanic.normal ?_
  have HM5 := Lib.hid (HM4.out _ _ HM3.out HK3.out HP3.out (Below.refl _ _))
  clear HM4 a0 a1 a2 a3 a4 a5 a6 a7 c3 hfr hgl
  generalize (w3.setCell ⟨g, x * 8 + 1, none⟩ (.string (y.m ++ s))).drew = w4 at *
  obtain ⟨HMM, HKK, cP⟩ := HM5.out
  have HMM := Lib.hid HMM
  have HKK := Lib.hid HKK
  clear HM5
  obtain ⟨b0, b1, b2, b3, b4, b5, b6, b7⟩ := HMM.out.at' x (by rw [List.length_set]; exact HX.out)
  rw [show Ac (M.set x (moreC y s)) x = moreC y s by unfold Ac; rw [List.getElem?_set_self HX.out]; rfl] at b0 b1 b2 b3 b4 b5 b6 b7
  simp only [moreC] at b0 b1 b2 b3 b4 b5 b6 b7
  have HH := Lib.hid h1
  rw [h1] at b2 HO
  have HSS : Hid (∀ W, Below w4.heap.size w4 W → W.cell? ⟨P1, 0, none⟩ = some (.int .i64 x) ∧ C8 W g (x * 8) (moreC y s)) := Lib.hid fun W hb => by
    refine ⟨(hb.cell (p := ⟨P1, 0, none⟩) (cell_lt cP)).trans cP, ?_⟩
    have h := (HMM.out.past hb).at' x (by rw [List.length_set]; exact HX.out)
    rwa [show Ac (M.set x (moreC y s)) x = moreC y s by unfold Ac; rw [List.getElem?_set_self HX.out]; rfl] at h
  have HFIN : Hid (∀ W, Below w4.heap.size w4 W → MC (set8 W g ((x + 1) * 8) (halfC (moreC y s) 2)) g ((M.set x (moreC y s)).set (x + 1) (halfC (moreC y s) 2)) ∧ KG g w (set8 W g ((x + 1) * 8) (halfC (moreC y s) 2)) ∧ C8 W g ((x + 1) * 8) (Ac (M.set x (moreC y s)) (x + 1)) ∧ (∀ k, W.frozen? ⟨g, k, none⟩ = false) ∧ g < W.heap.size ∧ (set8 W g ((x + 1) * 8) (halfC (moreC y s) 2)).cell? ⟨P1, 0, none⟩ = some (.int .i64 x) ∧ C8 (set8 W g ((x + 1) * 8) (halfC (moreC y s) 2)) g (x * 8) (moreC y s)) := Lib.hid fun W hb => by
    have hm5 := (HMM.out.past hb).set (x + 1) (by rw [List.length_set]; exact HNM.out) (halfC (moreC y s) 2)
    refine ⟨hm5, (HKK.out.past hb).set8 _ _, (HMM.out.past hb).at' _ (by rw [List.length_set]; exact HNM.out), (HMM.out.past hb).free, (HMM.out.past hb).lt, ?_, ?_⟩
    · have hp5 := (HSS.out W hb).1
      exact (set8_far W g _ _ _ (fun e => HPG.out e.symm)).trans hp5
    · have h := hm5.at' x (by rw [List.length_set, List.length_set]; exact HX.out)
      have e : Ac ((M.set x (moreC y s)).set (x + 1) (halfC (moreC y s) 2)) x = moreC y s := by
        unfold Ac
        rw [List.getElem?_set_ne (by have := HNE.out; omega), List.getElem?_set_self HX.out]
        rfl
      rwa [e] at h
  clear h1 HX HNM
  generalize hxx : x + 1 = xx at *
  have HXX := Lib.hid hxx
  clear hxx
  generalize Ac (M.set x (moreC y s)) xx = z at *
  go_wp2
  refine wp_region_noPanic ?_
  refine seg_start (by kernel_rfl) ?_
  have hi := HI.out
  have hin : (xx : Int) < n := by have := HN.out; omega
  have hS := HSS.out w4.drew (Below.refl _ _).drew
  refine wpAny_of_held (S := fun W => W.cell? ⟨P1, 0, none⟩ = some (.int .i64 x) ∧ C8 W g (x * 8) (moreC y s)) _ _ _ _ ?_
  refine wpAnyH_take (i := 0) (oi := _) (v := ?_) rfl (by kernel_rfl) (by kernel_rfl) (by kernel_rfl) (fun _ _ _ h => h) (Or.inl ⟨by rfl, ?_⟩) hS ?_
  rotate_left
  · intro W hSw
    clear hSw
    go_simp
    (try with_reducible rfl)
  refine wpAnyH_take (i := 1) (oi := _) (v := ?_) rfl (by kernel_rfl) (by kernel_rfl) (by kernel_rfl) (fun _ _ _ h => h) (Or.inl ⟨by rfl, ?_⟩) hS ?_
  rotate_left
  · intro W hSw
    obtain ⟨k0, k1, k2, k3, k4, k5, k6, k7, k8⟩ := hSw
    simp only [moreC] at k1 k2 k3 k4 k5 k6 k7 k8
    rw [HH.out] at k3
    go_simp
    (try with_reducible rfl)
  refine wpAnyH_take (i := 2) (oi := _) (v := ?_) rfl (by kernel_rfl) (by kernel_rfl) (by kernel_rfl) (fun _ _ _ h => h) (Or.inl ⟨by rfl, ?_⟩) hS ?_
  rotate_left
  · intro W hSw
    clear hSw
    go_simp
    (try with_reducible rfl)
  refine wpAnyH_take (i := 3) (oi := _) (v := ?_) rfl (by kernel_rfl) (by kernel_rfl) (by kernel_rfl) (fun _ _ _ h => h) (Or.inl ⟨by rfl, ?_⟩) hS ?_
  rotate_left
  · intro W hSw
    clear hSw
    go_simp
    (try with_reducible rfl)
  refine wpAnyH_take (i := 4) (oi := _) (v := ?_) rfl (by kernel_rfl) (by kernel_rfl) (by kernel_rfl) (fun _ _ _ h => h) (Or.inl ⟨by rfl, ?_⟩) hS ?_
  rotate_left
  · intro W hSw
    clear hSw
    go_simp
    (try with_reducible rfl)
  refine wpAnyH_take (i := 5) (oi := _) (v := ?_) rfl (by kernel_rfl) (by kernel_rfl) (by kernel_rfl) (fun _ _ _ h => h) (Or.inl ⟨by rfl, ?_⟩) hS ?_
  rotate_left
  · intro W hSw
    obtain ⟨k0, k1, k2, k3, k4, k5, k6, k7, k8⟩ := hSw
    simp only [moreC] at k1 k2 k3 k4 k5 k6 k7 k8
    rw [HH.out] at k3
    go_simp
    (try with_reducible rfl)
  clear hi b0 b1 b2 b3 b4 b5 b6 b7 cP
  refine wpAnyH_ready (rs := [6]) (by kernel_rfl) (by simp) ?_
  refine AllReadyH.cons (o := _) rfl (fun K hK => ?_) AllReadyH.nil
  go_simp
  (with_reducible refine (HO.out _).mono ?_)
  rintro e5 w5 ⟨rfl, hb5⟩
  refine hK.out _ _ (HSS.out _ (belD hb5)) (fun hS5 => ?_)
  clear hK K
  obtain ⟨HE1, HE2, ⟨z0, z1, z2, z3, z4, z5, z6, z7⟩, hfr5, hgl5, HS6⟩ := HFIN.out _ (belD hb5)
  have HS6 := Lib.hid HS6
  have HE1 := Lib.hid HE1
  have HE2 := Lib.hid HE2
  clear hb5 HFIN
  refine wpAnyH_take (i := 7) (oi := _) (v := ?_) rfl (by kernel_rfl) (by kernel_rfl) (by kernel_rfl) (fun _ _ _ h => h) (Or.inl ⟨by rfl, ?_⟩) hS5 ?_
  rotate_left
  · intro W hSw
    clear hSw
    go_simp
    (try with_reducible rfl)
  refine wpAnyH_ready (rs := [8]) (by kernel_rfl) (by simp) ?_
  refine AllReadyH.cons (o := _) rfl (fun K hK => ?_) AllReadyH.nil
  go_simp
  refine hK.out _ _ HS6.out (fun _ => ?_)
  clear hK K
  refine ⟨by kernel_rfl, NoPanic.normal ?_⟩
  (try simp only [Act.put])
  go_wp2
  go_end0
  exact ⟨rfl, by rw [HY.out, HXX.out]; exact HE1.out, HE2.out⟩
set_option maxRecDepth 100000 in
set_option maxHeartbeats 4000000 in
theorem markFn_b (g n c x P1 P2 P3 : Nat) (M : List CC) (r : Int) (s : ByteArray) (hn : n = M.length) (hx : x < n) (w : World) (hz : ofZ r = 0) (h0 : ((Ac M x).r == 0) = false) (hsz : (Ac M x).m.size + s.size ≤ 32) (h1 : (Ac M x).h = 2) (h2 : 0 < x) (hl : n ≤ 1000) (hT : WT w) (h : MC w g M) (hp : MarkC w P1 P2 P3 x r s) :
    Calls Tryd.prog 63 #[.slice (some ⟨g, 0, none⟩) n c, .pointer (some ⟨P1, 0, none⟩), .pointer (some ⟨P2, 0, none⟩), .pointer (some ⟨P3, 0, none⟩)] w fun e w' => e = .returned (.tuple #[]) ∧ MC w' g ((M.set x (moreC (Ac M x) s)).set (x - 1) (halfC (moreC (Ac M x) s) 1)) ∧ KG g w w' := by
  have HI : Hid (IntKind.i64.wrap ((x : Int) - 1) = ((x - 1 : Nat) : Int)) := Lib.hid (by rw [IntWalk.i64_in _ (by omega)]; omega)
  have HW := Lib.hid (widthOf_any r w.drew ⟨hT.1, hT.2⟩)
  rw [hz] at HW
  have c1 := cell_of_row _ _ 0 _ _ _ hp.h1
  have c2 := cell_of_row _ _ 0 _ _ _ hp.h2
  have HM := Lib.hid (fun W (hb : Below w.drew.heap.size w.drew W) => (And.intro (h.past (belD hb)) ⟨(KG.refl g w).past (belD hb), hp.past (belD hb)⟩ : MC W g M ∧ KG g w W ∧ MarkC W P1 P2 P3 x r s))
  have hxn : (x : Int) < n := by have := hx; omega
  have HX := Lib.hid (show x < M.length by omega)
  have hw1 : IntKind.i64.wrap (((Ac M x).m.size : Int) + s.size) = ((Ac M x).m.size : Int) + s.size := IntWalk.i64_in _ (by omega)
  have hd : decide ((32 : Int) < ((Ac M x).m.size : Int) + s.size) = false := decide_eq_false (by omega)
  have hsum : ¬ (9223372036854775807 < (Ac M x).m.size + s.size) := by omega
  have HM4 : Hid (∀ (w3 W : World), MC w3 g M → KG g w w3 → MarkC w3 P1 P2 P3 x r s → Below w3.heap.size w3 W → MC (W.setCell ⟨g, x * 8 + 1, none⟩ (.string ((Ac M x).m ++ s))).drew g (M.set x (moreC (Ac M x) s)) ∧ KG g w (W.setCell ⟨g, x * 8 + 1, none⟩ (.string ((Ac M x).m ++ s))).drew ∧ (W.setCell ⟨g, x * 8 + 1, none⟩ (.string ((Ac M x).m ++ s))).drew.cell? ⟨P1, 0, none⟩ = some (.int .i64 x)) := Lib.hid fun w3 W hm hk hpp hb => by
    refine ⟨(more_at (hm.past hb) (by omega) s).past (Below.refl _ _).drew, ((hk.past hb).set _ _).past (Below.refl _ _).drew, ?_⟩
    have hne : P1 ≠ g := fun e => by
      obtain ⟨cur, hc⟩ := h.row
      have := hp.h1
      rw [e, hc] at this
      injection this with this
      injection this with _ h1 _
      exact absurd h1 (by decide)
    refine (World.cell?_setCell_far _ _ _ _ (fun e => hne e.symm)).trans ?_
    exact cell_of_row _ _ 0 _ _ _ ((hpp.past hb).h1)
  have HO := Lib.hid (otherHalf_other (moreC (Ac M x) s) (by show (Ac M x).h ≠ 1; rw [h1]; decide))
  simp only [moreC] at HO
  have HNE := Lib.hid (show x - 1 ≠ x by omega)
  have HPG : Hid (P1 ≠ g) := Lib.hid fun e => by
    obtain ⟨cur, hc⟩ := h.row
    have := hp.h1
    rw [e, hc] at this
    injection this with this
    injection this with _ h1 _
    exact absurd h1 (by decide)
  have HN := Lib.hid (show x - 1 < n by omega)
  have HNM := Lib.hid (show x - 1 < M.length by omega)
  clear h hp hT hz hn hsz hl
  go_enter Tryd.func63, Tryd.ntmps63
  go_wp2
  refine wp_region_noPanic ?_
  refine seg_start (by kernel_rfl) ?_
  refine seg_quiet 0 1 20 rfl (by kernel_rfl) (by kernel_rfl) (by kernel_rfl) (by kernel_rfl) (by kernel_rfl) (by kernel_rfl) ?_
  simp only [List.take_succ_cons, List.take_zero, List.drop_zero]
  ((with_reducible refine wpStill_step (fun K hK => ?_)); go_simp; (with_reducible refine hK _ ?_); clear hK K)
  with_reducible refine wpStill_nil ?_
  refine seg_one 1 19 rfl (by kernel_rfl) (fun K hK => ?_)
  go_simp
  (with_reducible refine (HW.out).mono ?_)
  rintro e3 w3 ⟨rfl, ht⟩
  (with_reducible refine hK.out _ _ ?_)
  clear hK K HW
  obtain ⟨HM3, HK3, HP3⟩ := HM.out _ ht
  have HM3 := Lib.hid HM3
  have HK3 := Lib.hid HK3
  have HP3 := Lib.hid HP3
  clear ht HM
  obtain ⟨a0, a1, a2, a3, a4, a5, a6, a7⟩ := HM3.out.at' x HX.out
  have c3 := cell_of_row _ _ 0 _ _ _ HP3.out.h3
  have hfr := HM3.out.free
  have hgl := HM3.out.lt
  generalize hy : Ac M x = y at *
  have HY := Lib.hid hy
  clear hy
  refine seg_quiet 2 18 1 rfl (by kernel_rfl) (by kernel_rfl) (by kernel_rfl) (by kernel_rfl) (by kernel_rfl) (by kernel_rfl) ?_
  simp only [List.take_succ_cons, List.take_zero, List.drop_succ_cons, List.drop_zero]
  ((with_reducible refine wpStill_step (fun K hK => ?_)); go_simp; (with_reducible refine hK _ ?_); clear hK K)
  ((with_reducible refine wpStill_step (fun K hK => ?_)); go_simp; (with_reducible refine hK _ ?_); clear hK K)
  ((with_reducible refine wpStill_step (fun K hK => ?_)); go_simp; (with_reducible refine hK _ ?_); clear hK K)
  ((with_reducible refine wpStill_step (fun K hK => ?_)); go_simp; (with_reducible refine hK _ ?_); clear hK K)
  ((with_reducible refine wpStill_step (fun K hK => ?_)); go_simp; (with_reducible refine hK _ ?_); clear hK K)
  ((with_reducible refine wpStill_step (fun K hK => ?_)); go_simp; (with_reducible refine hK _ ?_); clear hK K)
  ((with_reducible refine wpStill_step (fun K hK => ?_)); go_simp; (with_reducible refine hK _ ?_); clear hK K)
  ((with_reducible refine wpStill_step (fun K hK => ?_)); go_simp; (with_reducible refine hK _ ?_); clear hK K)
  ((with_reducible refine wpStill_step (fun K hK => ?_)); go_simp; (with_reducible refine hK _ ?_); clear hK K)
  ((with_reducible refine wpStill_step (fun K hK => ?_)); go_simp; (with_reducible refine hK _ ?_); clear hK K)
  ((with_reducible refine wpStill_step (fun K hK => ?_)); go_simp; (with_reducible refine hK _ ?_); clear hK K)
  ((with_reducible refine wpStill_step (fun K hK => ?_)); go_simp; (with_reducible refine hK _ ?_); clear hK K)
  ((with_reducible refine wpStill_step (fun K hK => ?_)); go_simp; (with_reducible refine hK _ ?_); clear hK K)
  ((with_reducible refine wpStill_step (fun K hK => ?_)); go_simp; (with_reducible refine hK _ ?_); clear hK K)
  ((with_reducible refine wpStill_step (fun K hK => ?_)); go_simp; (with_reducible refine hK _ ?_); clear hK K)
  ((with_reducible refine wpStill_step (fun K hK => ?_)); go_simp; (with_reducible refine hK _ ?_); clear hK K)
  ((with_reducible refine wpStill_step (fun K hK => ?_)); go_simp; (with_reducible refine hK _ ?_); clear hK K)
  ((with_reducible refine wpStill_step (fun K hK => ?_)); go_simp; (with_reducible refine hK _ ?_); clear hK K)
  with_reducible refine wpStill_nil ?_
  refine seg_one 20 0 rfl (by kernel_rfl) (fun K hK => ?_)
  go_simp
  (with_reducible refine hK.out _ _ ?_)
  clear hK K
  refine seg_end (by kernel_rfl) ?_
  refine NoPanic.normal ?_
  go_wp2
  refine wp_region_noPanic ?_
  refine seg_start (by kernel_rfl) ?_
  refine seg_quiet 0 8 1 rfl (by kernel_rfl) (by kernel_rfl) (by kernel_rfl) (by kernel_rfl) (by kernel_rfl) (by kernel_rfl) ?_
  simp only [List.take_succ_cons, List.take_zero, List.drop_zero]
  ((with_reducible refine wpStill_step (fun K hK => ?_)); go_simp; (with_reducible refine hK _ ?_); clear hK K)
  ((with_reducible refine wpStill_step (fun K hK => ?_)); go_simp; (with_reducible refine hK _ ?_); clear hK K)
  ((with_reducible refine wpStill_step (fun K hK => ?_)); go_simp; (with_reducible refine hK _ ?_); clear hK K)
  ((with_reducible refine wpStill_step (fun K hK => ?_)); go_simp; (with_reducible refine hK _ ?_); clear hK K)
  ((with_reducible refine wpStill_step (fun K hK => ?_)); go_simp; (with_reducible refine hK _ ?_); clear hK K)
  ((with_reducible refine wpStill_step (fun K hK => ?_)); go_simp; (with_reducible refine hK _ ?_); clear hK K)
  ((with_reducible refine wpStill_step (fun K hK => ?_)); go_simp; (with_reducible refine hK _ ?_); clear hK K)
  ((with_reducible refine wpStill_step (fun K hK => ?_)); go_simp; (with_reducible refine hK _ ?_); clear hK K)
  with_reducible refine wpStill_nil ?_
  refine seg_one 8 0 rfl (by kernel_rfl) (fun K hK => ?_)
  go_simp
  (with_reducible refine hK.out _ _ ?_)
  clear hK K
  refine seg_end (by kernel_rfl) ?_
  refine NoPanic.normal ?_
  have HM5 := Lib.hid (HM4.out _ _ HM3.out HK3.out HP3.out (Below.refl _ _))
  clear HM4 a0 a1 a2 a3 a4 a5 a6 a7 c3 hfr hgl
  generalize (w3.setCell ⟨g, x * 8 + 1, none⟩ (.string (y.m ++ s))).drew = w4 at *
  obtain ⟨HMM, HKK, cP⟩ := HM5.out
  have HMM := Lib.hid HMM
  have HKK := Lib.hid HKK
  clear HM5
  obtain ⟨b0, b1, b2, b3, b4, b5, b6, b7⟩ := HMM.out.at' x (by rw [List.length_set]; exact HX.out)
  rw [show Ac (M.set x (moreC y s)) x = moreC y s by unfold Ac; rw [List.getElem?_set_self HX.out]; rfl] at b0 b1 b2 b3 b4 b5 b6 b7
  simp only [moreC] at b0 b1 b2 b3 b4 b5 b6 b7
  have HH := Lib.hid h1
  rw [h1] at b2 HO
  have HSS : Hid (∀ W, Below w4.heap.size w4 W → W.cell? ⟨P1, 0, none⟩ = some (.int .i64 x) ∧ C8 W g (x * 8) (moreC y s)) := Lib.hid fun W hb => by
    refine ⟨(hb.cell (p := ⟨P1, 0, none⟩) (cell_lt cP)).trans cP, ?_⟩
    have h := (HMM.out.past hb).at' x (by rw [List.length_set]; exact HX.out)
    rwa [show Ac (M.set x (moreC y s)) x = moreC y s by unfold Ac; rw [List.getElem?_set_self HX.out]; rfl] at h
  have HFIN : Hid (∀ W, Below w4.heap.size w4 W → MC (set8 W g ((x - 1) * 8) (halfC (moreC y s) 1)) g ((M.set x (moreC y s)).set (x - 1) (halfC (moreC y s) 1)) ∧ KG g w (set8 W g ((x - 1) * 8) (halfC (moreC y s) 1)) ∧ C8 W g ((x - 1) * 8) (Ac (M.set x (moreC y s)) (x - 1)) ∧ (∀ k, W.frozen? ⟨g, k, none⟩ = false) ∧ g < W.heap.size ∧ (set8 W g ((x - 1) * 8) (halfC (moreC y s) 1)).cell? ⟨P1, 0, none⟩ = some (.int .i64 x) ∧ C8 (set8 W g ((x - 1) * 8) (halfC (moreC y s) 1)) g (x * 8) (moreC y s)) := Lib.hid fun W hb => by
    have hm5 := (HMM.out.past hb).set (x - 1) (by rw [List.length_set]; exact HNM.out) (halfC (moreC y s) 1)
    refine ⟨hm5, (HKK.out.past hb).set8 _ _, (HMM.out.past hb).at' _ (by rw [List.length_set]; exact HNM.out), (HMM.out.past hb).free, (HMM.out.past hb).lt, ?_, ?_⟩
    · have hp5 := (HSS.out W hb).1
      exact (set8_far W g _ _ _ (fun e => HPG.out e.symm)).trans hp5
    · have h := hm5.at' x (by rw [List.length_set, List.length_set]; exact HX.out)
      have e : Ac ((M.set x (moreC y s)).set (x - 1) (halfC (moreC y s) 1)) x = moreC y s := by
        unfold Ac
        rw [List.getElem?_set_ne (by have := HNE.out; omega), List.getElem?_set_self HX.out]
        rfl
      rwa [e] at h
  clear h1 HX HNM
  generalize hxx : x - 1 = xx at *
  have HXX := Lib.hid hxx
  clear hxx
  generalize Ac (M.set x (moreC y s)) xx = z at *
  go_wp2
  refine wp_region_noPanic ?_
  refine seg_start (by kernel_rfl) ?_
  have hi := HI.out
  have hin : (xx : Int) < n := by have := HN.out; omega
  have hS := HSS.out w4.drew (Below.refl _ _).drew
  refine wpAny_of_held (S := fun W => W.cell? ⟨P1, 0, none⟩ = some (.int .i64 x) ∧ C8 W g (x * 8) (moreC y s)) _ _ _ _ ?_
  refine wpAnyH_take (i := 0) (oi := _) (v := ?_) rfl (by kernel_rfl) (by kernel_rfl) (by kernel_rfl) (fun _ _ _ h => h) (Or.inl ⟨by rfl, ?_⟩) hS ?_
  rotate_left
  · intro W hSw
    clear hSw
    go_simp
    (try with_reducible rfl)
  refine wpAnyH_take (i := 1) (oi := _) (v := ?_) rfl (by kernel_rfl) (by kernel_rfl) (by kernel_rfl) (fun _ _ _ h => h) (Or.inl ⟨by rfl, ?_⟩) hS ?_
  rotate_left
  · intro W hSw
    obtain ⟨k0, k1, k2, k3, k4, k5, k6, k7, k8⟩ := hSw
    simp only [moreC] at k1 k2 k3 k4 k5 k6 k7 k8
    rw [HH.out] at k3
    go_simp
    (try with_reducible rfl)
  refine wpAnyH_take (i := 2) (oi := _) (v := ?_) rfl (by kernel_rfl) (by kernel_rfl) (by kernel_rfl) (fun _ _ _ h => h) (Or.inl ⟨by rfl, ?_⟩) hS ?_
  rotate_left
  · intro W hSw
    clear hSw
    go_simp
    (try with_reducible rfl)
  refine wpAnyH_take (i := 3) (oi := _) (v := ?_) rfl (by kernel_rfl) (by kernel_rfl) (by kernel_rfl) (fun _ _ _ h => h) (Or.inl ⟨by rfl, ?_⟩) hS ?_
  rotate_left
  · intro W hSw
    clear hSw
    go_simp
    (try with_reducible rfl)
  refine wpAnyH_take (i := 4) (oi := _) (v := ?_) rfl (by kernel_rfl) (by kernel_rfl) (by kernel_rfl) (fun _ _ _ h => h) (Or.inl ⟨by rfl, ?_⟩) hS ?_
  rotate_left
  · intro W hSw
    clear hSw
    go_simp
    (try with_reducible rfl)
  refine wpAnyH_take (i := 5) (oi := _) (v := ?_) rfl (by kernel_rfl) (by kernel_rfl) (by kernel_rfl) (fun _ _ _ h => h) (Or.inl ⟨by rfl, ?_⟩) hS ?_
  rotate_left
  · intro W hSw
    obtain ⟨k0, k1, k2, k3, k4, k5, k6, k7, k8⟩ := hSw
    simp only [moreC] at k1 k2 k3 k4 k5 k6 k7 k8
    rw [HH.out] at k3
    go_simp
    (try with_reducible rfl)
  clear hi b0 b1 b2 b3 b4 b5 b6 b7 cP
  refine wpAnyH_ready (rs := [6]) (by kernel_rfl) (by simp) ?_
  refine AllReadyH.cons (o := _) rfl (fun K hK => ?_) AllReadyH.nil
  go_simp
  (with_reducible refine (HO.out _).mono ?_)
  rintro e5 w5 ⟨rfl, hb5⟩
  refine hK.out _ _ (HSS.out _ (belD hb5)) (fun hS5 => ?_)
  clear hK K
  obtain ⟨HE1, HE2, ⟨z0, z1, z2, z3, z4, z5, z6, z7⟩, hfr5, hgl5, HS6⟩ := HFIN.out _ (belD hb5)
  have HS6 := Lib.hid HS6
  have HE1 := Lib.hid HE1
  have HE2 := Lib.hid HE2
  clear hb5 HFIN
  refine wpAnyH_take (i := 7) (oi := _) (v := ?_) rfl (by kernel_rfl) (by kernel_rfl) (by kernel_rfl) (fun _ _ _ h => h) (Or.inl ⟨by rfl, ?_⟩) hS5 ?_
  rotate_left
  · intro W hSw
    clear hSw
    go_simp
    (try with_reducible rfl)
  refine wpAnyH_ready (rs := [8]) (by kernel_rfl) (by simp) ?_
  refine AllReadyH.cons (o := _) rfl (fun K hK => ?_) AllReadyH.nil
  go_simp
  refine hK.out _ _ HS6.out (fun _ => ?_)
  clear hK K
  refine ⟨by kernel_rfl, NoPanic.normal ?_⟩
  (try simp only [Act.put])
  go_wp2
  go_end0
  exact ⟨rfl, by rw [HY.out, HXX.out]; exact HE1.out, HE2.out⟩
end Go.Proofs.YtoiekhjmfoodiaaDoor

namespace Go.Proofs.YtoiekhjmfoodiaaDoor
open Go.RowKit

theorem put7_size (r : Int) : (put7 r).size ≤ 4 := by
  unfold put7
  split
  · exact encode_size_le r
  · decide
/-- What Mark's closure makes of a mended row. -/
def markL (M : List CC) (x : Nat) (r : Int) : List CC :=
  if ofZ r = 0 ∧ (Ac M x).r ≠ 0 ∧ (Ac M x).m.size + (put7 r).size ≤ 32 then
    (if (Ac M x).h = 1 then (M.set x (moreC (Ac M x) (put7 r))).set (x + 1) (halfC (moreC (Ac M x) (put7 r)) 2)
     else if (Ac M x).h = 2 then (M.set x (moreC (Ac M x) (put7 r))).set (x - 1) (halfC (moreC (Ac M x) (put7 r)) 1)
     else M.set x (moreC (Ac M x) (put7 r)))
  else M
theorem markL_len (M : List CC) (x : Nat) (r : Int) : (markL M x r).length = M.length := by
  unfold markL
  split
  · split
    · simp
    · split <;> simp
  · rfl
/-- What Mark makes of a row. -/
def markRow (l : List CC) (z r : Int) : List CC :=
  if 0 ≤ z ∧ z < (l.length : Int) then mendL (markL (mendL l) z.toNat r) else mendL l
theorem markFn_any (g n c x P1 P2 P3 : Nat) (l : List CC) (r : Int) (hn : n = l.length) (hl : n ≤ 1000) (hx : x < n) (w : World) (hT : WT w) (h : MC w g (mendL l)) (hp : MarkC w P1 P2 P3 x r (put7 r)) (hs : (Ac (mendL l) x).m.size ≤ 4611686018427387904) :
    Calls Tryd.prog 63 #[.slice (some ⟨g, 0, none⟩) n c, .pointer (some ⟨P1, 0, none⟩), .pointer (some ⟨P2, 0, none⟩), .pointer (some ⟨P3, 0, none⟩)] w fun e w' => e = .returned (.tuple #[]) ∧ MC w' g (markL (mendL l) x r) ∧ KG g w w' := by
  have hn' : n = (mendL l).length := by rw [mendL_len, hn]
  have h4 := put7_size r
  unfold markL
  by_cases h0 : ofZ r = 0
  · by_cases h1 : (Ac (mendL l) x).r = 0
    · rw [if_neg (fun hh => hh.2.1 h1)]
      exact markFn_r g n c x P1 P2 P3 _ r _ hn' hx w h0 h1 hT h hp
    · have h1' : ((Ac (mendL l) x).r == 0) = false := by simpa using h1
      by_cases h2 : (Ac (mendL l) x).m.size + (put7 r).size ≤ 32
      · rw [if_pos ⟨h0, h1, h2⟩]
        by_cases h3 : (Ac (mendL l) x).h = 1
        · rw [if_pos h3]
          exact markFn_a g n c x P1 P2 P3 _ r _ hn' hx w h0 h1' h2 h3 (by have := (mend_left l x (by omega) h3).1; omega) hl hT h hp
        · rw [if_neg h3]
          by_cases h5 : (Ac (mendL l) x).h = 2
          · rw [if_pos h5]
            obtain ⟨j, hj, _⟩ := mend_right l x (by omega) h5
            exact markFn_b g n c x P1 P2 P3 _ r _ hn' hx w h0 h1' h2 h5 (by omega) hl hT h hp
          · rw [if_neg h5]
            exact markFn_p g n c x P1 P2 P3 _ r _ hn' hx w h0 h1' h2 (by simpa using h3) (by simpa using h5) hT h hp
      · rw [if_neg (fun hh => h2 hh.2.2)]
        exact markFn_l g n c x P1 P2 P3 _ r _ hn' hx w h0 h1' (by omega) (by omega) hT h hp
  · rw [if_neg (fun hh => h0 hh.1)]
    exact markFn_w g n c x P1 P2 P3 _ r _ hn' hx w _ rfl (by simpa using h0) hT h hp
theorem mark_any (A : Option Addr) (l : List CC) (n c : Nat) (z r : Int) (hn : n = l.length) (hl : n ≤ 1000) (hs : ∀ x, x < l.length → (Ac (mendL l) x).m.size ≤ 4611686018427387904) (w : World) (hT : WT w) (h : RC w w.heap.size A l) :
    Calls Tryd.prog 36 #[.slice A n c, .int .i64 z, .int .i32 r] w fun e w' => ∃ v, e = .returned v ∧ OC w.heap.size w' v (markRow l z r) ∧ Below w.heap.size w w' := by
  refine mark_via A _ n c z r w fun W P1 P2 P3 hW h1 h2 h3 => ?_
  have hR := h.past hW
  unfold markRow
  by_cases hz : 0 ≤ z ∧ z < (l.length : Int)
  · rw [if_pos hz]
    obtain ⟨x, hx⟩ : ∃ x : Nat, z = x := ⟨z.toNat, by omega⟩
    subst hx
    have hxl : x < l.length := by omega
    rw [Int.toNat_natCast]
    have hp : MarkC W P1 P2 P3 x r (put7 r) := ⟨h1, h2, h3⟩
    exact atMark_in A l _ n c x P1 P2 P3 hn hl (by omega) (by rw [markL_len, mendL_len, hn]) W hR fun V g c' hV _ hm => markFn_any g n c' x P1 P2 P3 l r hn hl (by omega) V (hT.below (bel0 hW hV)) hm (hp.past hV) (hs x hxl)
  · rw [if_neg hz]
    exact atMark_out A l n c z _ hn hl (by omega) W hR
end Go.Proofs.YtoiekhjmfoodiaaDoor
