/- Mark's closure where nothing is laid. -/
import Derived.Test.YtoiekhjmfoodiaaDoorYe
import Derived.Test.YtoiekhjmfoodiaaDoorGw
import Derived.Test.YtoiekhjmfoodiaaDoorSw
import Derived.Deep.RegionHeld3
namespace Go.Proofs.YtoiekhjmfoodiaaDoor
open Go Go.RowKit

/-- What Mark's closure has caught: the place, the scalar, its bytes. -/
structure MarkC (w : World) (P1 P2 P3 : Nat) (x : Nat) (r : Int) (s : ByteArray) : Prop where
  h1 : w.heap[P1]? = some (.cells #[.int .i64 x] 3 (0, 0))
  h2 : w.heap[P2]? = some (.cells #[.int .i32 r] 21 (0, 0))
  h3 : w.heap[P3]? = some (.cells #[.string s] 9 (0, 0))
theorem MarkC.past {w w' : World} {P1 P2 P3 x : Nat} {r : Int} {s : ByteArray} (h : MarkC w P1 P2 P3 x r s) (hb : Below w.heap.size w w') : MarkC w' P1 P2 P3 x r s := by
  have k : ∀ {i : Nat} {o : Obj}, w.heap[i]? = some o → w'.heap[i]? = some o := fun {i o} hi => (hb.block i (Array.getElem?_eq_some_iff.1 hi).1).trans hi
  exact ⟨k h.h1, k h.h2, k h.h3⟩
/-- A cell's marks, and more; the other half. -/
def moreC (y : CC) (s : ByteArray) : CC := ⟨y.r, y.m ++ s, y.h, y.fk, y.fn, y.bk, y.bn, y.fl⟩
def halfC (y : CC) (h : Int) : CC := ⟨y.r, y.m, h, y.fk, y.fn, y.bk, y.bn, y.fl⟩
theorem seg_end {P : Program} {ops : Array Oper} {md : Region.Mode} {w : World} {Q : Exit → Act → World → Prop} {a : Act} {listed : Array Bool} (h0 : Region.ready md ops listed = []) (h : Q .normal a w) : wpAny P md ops Q 0 listed a w := ⟨h0, h⟩
set_option maxRecDepth 100000 in
set_option maxHeartbeats 4000000 in
theorem markFn_w (g n c x P1 P2 P3 : Nat) (M : List CC) (r : Int) (s : ByteArray) (hn : n = M.length) (hx : x < n) (w : World) (z : Int) (hz : ofZ r = z) (h0 : (z == 0) = false) (hT : WT w) (h : MC w g M) (hp : MarkC w P1 P2 P3 x r s) :
    Calls Tryd.prog 63 #[.slice (some ⟨g, 0, none⟩) n c, .pointer (some ⟨P1, 0, none⟩), .pointer (some ⟨P2, 0, none⟩), .pointer (some ⟨P3, 0, none⟩)] w fun e w' => e = .returned (.tuple #[]) ∧ MC w' g M ∧ KG g w w' := by
  have HW := Lib.hid (widthOf_any r w.drew ⟨hT.1, hT.2⟩)
  rw [hz] at HW
  have c1 := cell_of_row _ _ 0 _ _ _ hp.h1
  have c2 := cell_of_row _ _ 0 _ _ _ hp.h2
  have HM := Lib.hid (fun W (hb : Below w.drew.heap.size w.drew W) => (And.intro (h.past (belD hb)) ⟨(KG.refl g w).past (belD hb), hp.past (belD hb)⟩ : MC W g M ∧ KG g w W ∧ MarkC W P1 P2 P3 x r s))
  have hxn : (x : Int) < n := by have := hx; omega
  have h0n : (z != 0) = true := (by rw [bne, h0]; rfl : (z != 0) = true)
  clear h hp hT hz hn
  go_enter Tryd.func63, Tryd.ntmps63
  go_wp2
  refine wp_region_noPanic ?_
  refine seg_start (by kernel_rfl) ?_
  refine seg_quiet 0 1 20 rfl (by kernel_rfl) (by kernel_rfl) (by kernel_rfl) (by kernel_rfl) (by kernel_rfl) (by kernel_rfl) ?_
  simp only [List.take_succ_cons, List.take_zero, List.drop_zero]
  ((with_reducible refine wpStill_step (fun K hK => ?_)); go_simp; (with_reducible refine hK _ ?_); clear hK K)
  with_reducible refine wpStill_nil ?_
  refine seg_one 1 19 rfl (by kernel_rfl) (fun K hK => ?_)
  go_simp
  (with_reducible refine (HW.out).mono ?_)
  rintro e3 w3 ⟨rfl, ht⟩
  (with_reducible refine hK.out _ _ ?_)
  clear hK K HW
  obtain ⟨HM3, HK3, HP3⟩ := HM.out _ ht
  have HM3 := Lib.hid HM3
  have HK3 := Lib.hid HK3
  have HP3 := Lib.hid HP3
  clear ht HM
  refine seg_quiet 2 18 1 rfl (by kernel_rfl) (by kernel_rfl) (by kernel_rfl) (by kernel_rfl) (by kernel_rfl) (by kernel_rfl) ?_
  simp only [List.take_succ_cons, List.take_zero, List.drop_succ_cons, List.drop_zero]
  ((with_reducible refine wpStill_step (fun K hK => ?_)); go_simp; (with_reducible refine hK _ ?_); clear hK K)
  ((with_reducible refine wpStill_step (fun K hK => ?_)); go_simp; (with_reducible refine hK _ ?_); clear hK K)
  ((with_reducible refine wpStill_step (fun K hK => ?_)); go_simp; (with_reducible refine hK _ ?_); clear hK K)
  ((with_reducible refine wpStill_step (fun K hK => ?_)); go_simp; (with_reducible refine hK _ ?_); clear hK K)
  ((with_reducible refine wpStill_step (fun K hK => ?_)); go_simp; (with_reducible refine hK _ ?_); clear hK K)
  ((with_reducible refine wpStill_step (fun K hK => ?_)); go_simp; (with_reducible refine hK _ ?_); clear hK K)
  ((with_reducible refine wpStill_step (fun K hK => ?_)); go_simp; (with_reducible refine hK _ ?_); clear hK K)
  ((with_reducible refine wpStill_step (fun K hK => ?_)); go_simp; (with_reducible refine hK _ ?_); clear hK K)
  ((with_reducible refine wpStill_step (fun K hK => ?_)); go_simp; (with_reducible refine hK _ ?_); clear hK K)
  ((with_reducible refine wpStill_step (fun K hK => ?_)); go_simp; (with_reducible refine hK _ ?_); clear hK K)
  ((with_reducible refine wpStill_step (fun K hK => ?_)); go_simp; (with_reducible refine hK _ ?_); clear hK K)
  ((with_reducible refine wpStill_step (fun K hK => ?_)); go_simp; (with_reducible refine hK _ ?_); clear hK K)
  ((with_reducible refine wpStill_step (fun K hK => ?_)); go_simp; (with_reducible refine hK _ ?_); clear hK K)
  ((with_reducible refine wpStill_step (fun K hK => ?_)); go_simp; (with_reducible refine hK _ ?_); clear hK K)
  ((with_reducible refine wpStill_step (fun K hK => ?_)); go_simp; (with_reducible refine hK _ ?_); clear hK K)
  ((with_reducible refine wpStill_step (fun K hK => ?_)); go_simp; (with_reducible refine hK _ ?_); clear hK K)
  ((with_reducible refine wpStill_step (fun K hK => ?_)); go_simp; (with_reducible refine hK _ ?_); clear hK K)
  ((with_reducible refine wpStill_step (fun K hK => ?_)); go_simp; (with_reducible refine hK _ ?_); clear hK K)
  with_reducible refine wpStill_nil ?_
  refine seg_one 20 0 rfl (by kernel_rfl) (fun K hK => ?_)
  go_simp
  (with_reducible refine hK.out _ _ ?_)
  clear hK K
  refine seg_end (by kernel_rfl) ?_
  refine NoPanic.normal ?_
  go_wp2
  (try simp only [Exit.inBlock, Exit.then])
  refine bodyPost_ret (results_none rfl _ _ _) rfl ?_
  exact ⟨rfl, HM3.out, HK3.out⟩
set_option maxRecDepth 100000 in
set_option maxHeartbeats 4000000 in
theorem markFn_r (g n c x P1 P2 P3 : Nat) (M : List CC) (r : Int) (s : ByteArray) (hn : n = M.length) (hx : x < n) (w : World) (hz : ofZ r = 0) (h0 : (Ac M x).r = 0) (hT : WT w) (h : MC w g M) (hp : MarkC w P1 P2 P3 x r s) :
    Calls Tryd.prog 63 #[.slice (some ⟨g, 0, none⟩) n c, .pointer (some ⟨P1, 0, none⟩), .pointer (some ⟨P2, 0, none⟩), .pointer (some ⟨P3, 0, none⟩)] w fun e w' => e = .returned (.tuple #[]) ∧ MC w' g M ∧ KG g w w' := by
  have HW := Lib.hid (widthOf_any r w.drew ⟨hT.1, hT.2⟩)
  rw [hz] at HW
  have c1 := cell_of_row _ _ 0 _ _ _ hp.h1
  have c2 := cell_of_row _ _ 0 _ _ _ hp.h2
  have HM := Lib.hid (fun W (hb : Below w.drew.heap.size w.drew W) => (And.intro (h.past (belD hb)) ⟨(KG.refl g w).past (belD hb), hp.past (belD hb)⟩ : MC W g M ∧ KG g w W ∧ MarkC W P1 P2 P3 x r s))
  have hxn : (x : Int) < n := by have := hx; omega
  have HX := Lib.hid (show x < M.length by omega)
  clear h hp hT hz hn
  go_enter Tryd.func63, Tryd.ntmps63
  go_wp2
  refine wp_region_noPanic ?_
  refine seg_start (by kernel_rfl) ?_
  refine seg_quiet 0 1 20 rfl (by kernel_rfl) (by kernel_rfl) (by kernel_rfl) (by kernel_rfl) (by kernel_rfl) (by kernel_rfl) ?_
  simp only [List.take_succ_cons, List.take_zero, List.drop_zero]
  ((with_reducible refine wpStill_step (fun K hK => ?_)); go_simp; (with_reducible refine hK _ ?_); clear hK K)
  with_reducible refine wpStill_nil ?_
  refine seg_one 1 19 rfl (by kernel_rfl) (fun K hK => ?_)
  go_simp
  (with_reducible refine (HW.out).mono ?_)
  rintro e3 w3 ⟨rfl, ht⟩
  (with_reducible refine hK.out _ _ ?_)
  clear hK K HW
  obtain ⟨HM3, HK3, HP3⟩ := HM.out _ ht
  have HM3 := Lib.hid HM3
  have HK3 := Lib.hid HK3
  have HP3 := Lib.hid HP3
  clear ht HM
  obtain ⟨a0, _⟩ := HM3.out.at' x HX.out
  rw [h0] at a0
  clear h0
  refine seg_quiet 2 18 1 rfl (by kernel_rfl) (by kernel_rfl) (by kernel_rfl) (by kernel_rfl) (by kernel_rfl) (by kernel_rfl) ?_
  simp only [List.take_succ_cons, List.take_zero, List.drop_succ_cons, List.drop_zero]
  ((with_reducible refine wpStill_step (fun K hK => ?_)); go_simp; (with_reducible refine hK _ ?_); clear hK K)
  ((with_reducible refine wpStill_step (fun K hK => ?_)); go_simp; (with_reducible refine hK _ ?_); clear hK K)
  ((with_reducible refine wpStill_step (fun K hK => ?_)); go_simp; (with_reducible refine hK _ ?_); clear hK K)
  ((with_reducible refine wpStill_step (fun K hK => ?_)); go_simp; (with_reducible refine hK _ ?_); clear hK K)
  ((with_reducible refine wpStill_step (fun K hK => ?_)); go_simp; (with_reducible refine hK _ ?_); clear hK K)
  ((with_reducible refine wpStill_step (fun K hK => ?_)); go_simp; (with_reducible refine hK _ ?_); clear hK K)
  ((with_reducible refine wpStill_step (fun K hK => ?_)); go_simp; (with_reducible refine hK _ ?_); clear hK K)
  ((with_reducible refine wpStill_step (fun K hK => ?_)); go_simp; (with_reducible refine hK _ ?_); clear hK K)
  ((with_reducible refine wpStill_step (fun K hK => ?_)); go_simp; (with_reducible refine hK _ ?_); clear hK K)
  ((with_reducible refine wpStill_step (fun K hK => ?_)); go_simp; (with_reducible refine hK _ ?_); clear hK K)
  ((with_reducible refine wpStill_step (fun K hK => ?_)); go_simp; (with_reducible refine hK _ ?_); clear hK K)
  ((with_reducible refine wpStill_step (fun K hK => ?_)); go_simp; (with_reducible refine hK _ ?_); clear hK K)
  ((with_reducible refine wpStill_step (fun K hK => ?_)); go_simp; (with_reducible refine hK _ ?_); clear hK K)
  ((with_reducible refine wpStill_step (fun K hK => ?_)); go_simp; (with_reducible refine hK _ ?_); clear hK K)
  ((with_reducible refine wpStill_step (fun K hK => ?_)); go_simp; (with_reducible refine hK _ ?_); clear hK K)
  ((with_reducible refine wpStill_step (fun K hK => ?_)); go_simp; (with_reducible refine hK _ ?_); clear hK K)
  ((with_reducible refine wpStill_step (fun K hK => ?_)); go_simp; (with_reducible refine hK _ ?_); clear hK K)
  ((with_reducible refine wpStill_step (fun K hK => ?_)); go_simp; (with_reducible refine hK _ ?_); clear hK K)
  with_reducible refine wpStill_nil ?_
  refine seg_one 20 0 rfl (by kernel_rfl) (fun K hK => ?_)
  go_simp
  (with_reducible refine hK.out _ _ ?_)
  clear hK K
  refine seg_end (by kernel_rfl) ?_
  refine NoPanic.normal ?_
  go_wp2
  (try simp only [Exit.inBlock, Exit.then])
  refine bodyPost_ret (results_none rfl _ _ _) rfl ?_
  exact ⟨rfl, HM3.out, HK3.out⟩
set_option maxRecDepth 100000 in
set_option maxHeartbeats 4000000 in
theorem markFn_l (g n c x P1 P2 P3 : Nat) (M : List CC) (r : Int) (s : ByteArray) (hn : n = M.length) (hx : x < n) (w : World) (hz : ofZ r = 0) (h0 : ((Ac M x).r == 0) = false) (hsz : (Ac M x).m.size + s.size ≤ 9223372036854775807) (hb : 32 < (Ac M x).m.size + s.size) (hT : WT w) (h : MC w g M) (hp : MarkC w P1 P2 P3 x r s) :
    Calls Tryd.prog 63 #[.slice (some ⟨g, 0, none⟩) n c, .pointer (some ⟨P1, 0, none⟩), .pointer (some ⟨P2, 0, none⟩), .pointer (some ⟨P3, 0, none⟩)] w fun e w' => e = .returned (.tuple #[]) ∧ MC w' g M ∧ KG g w w' := by
  have HW := Lib.hid (widthOf_any r w.drew ⟨hT.1, hT.2⟩)
  rw [hz] at HW
  have c1 := cell_of_row _ _ 0 _ _ _ hp.h1
  have c2 := cell_of_row _ _ 0 _ _ _ hp.h2
  have HM := Lib.hid (fun W (hb : Below w.drew.heap.size w.drew W) => (And.intro (h.past (belD hb)) ⟨(KG.refl g w).past (belD hb), hp.past (belD hb)⟩ : MC W g M ∧ KG g w W ∧ MarkC W P1 P2 P3 x r s))
  have hxn : (x : Int) < n := by have := hx; omega
  have HX := Lib.hid (show x < M.length by omega)
  have hw1 : IntKind.i64.wrap (((Ac M x).m.size : Int) + s.size) = ((Ac M x).m.size : Int) + s.size := IntWalk.i64_in _ (by omega)
  have hd : decide ((32 : Int) < ((Ac M x).m.size : Int) + s.size) = true := decide_eq_true (by omega)
  clear h hp hT hz hn hsz hb
  go_enter Tryd.func63, Tryd.ntmps63
  go_wp2
  refine wp_region_noPanic ?_
  refine seg_start (by kernel_rfl) ?_
  refine seg_quiet 0 1 20 rfl (by kernel_rfl) (by kernel_rfl) (by kernel_rfl) (by kernel_rfl) (by kernel_rfl) (by kernel_rfl) ?_
  simp only [List.take_succ_cons, List.take_zero, List.drop_zero]
  ((with_reducible refine wpStill_step (fun K hK => ?_)); go_simp; (with_reducible refine hK _ ?_); clear hK K)
  with_reducible refine wpStill_nil ?_
  refine seg_one 1 19 rfl (by kernel_rfl) (fun K hK => ?_)
  go_simp
  (with_reducible refine (HW.out).mono ?_)
  rintro e3 w3 ⟨rfl, ht⟩
  (with_reducible refine hK.out _ _ ?_)
  clear hK K HW
  obtain ⟨HM3, HK3, HP3⟩ := HM.out _ ht
  have HM3 := Lib.hid HM3
  have HK3 := Lib.hid HK3
  have HP3 := Lib.hid HP3
  clear ht HM
  obtain ⟨a0, a1, a2, a3, a4, a5, a6, a7⟩ := HM3.out.at' x HX.out
  have c3 := cell_of_row _ _ 0 _ _ _ HP3.out.h3
  generalize Ac M x = y at *
  refine seg_quiet 2 18 1 rfl (by kernel_rfl) (by kernel_rfl) (by kernel_rfl) (by kernel_rfl) (by kernel_rfl) (by kernel_rfl) ?_
  simp only [List.take_succ_cons, List.take_zero, List.drop_succ_cons, List.drop_zero]
  ((with_reducible refine wpStill_step (fun K hK => ?_)); go_simp; (with_reducible refine hK _ ?_); clear hK K)
  ((with_reducible refine wpStill_step (fun K hK => ?_)); go_simp; (with_reducible refine hK _ ?_); clear hK K)
  ((with_reducible refine wpStill_step (fun K hK => ?_)); go_simp; (with_reducible refine hK _ ?_); clear hK K)
  ((with_reducible refine wpStill_step (fun K hK => ?_)); go_simp; (with_reducible refine hK _ ?_); clear hK K)
  ((with_reducible refine wpStill_step (fun K hK => ?_)); go_simp; (with_reducible refine hK _ ?_); clear hK K)
  ((with_reducible refine wpStill_step (fun K hK => ?_)); go_simp; (with_reducible refine hK _ ?_); clear hK K)
  ((with_reducible refine wpStill_step (fun K hK => ?_)); go_simp; (with_reducible refine hK _ ?_); clear hK K)
  ((with_reducible refine wpStill_step (fun K hK => ?_)); go_simp; (with_reducible refine hK _ ?_); clear hK K)
  ((with_reducible refine wpStill_step (fun K hK => ?_)); go_simp; (with_reducible refine hK _ ?_); clear hK K)
  ((with_reducible refine wpStill_step (fun K hK => ?_)); go_simp; (with_reducible refine hK _ ?_); clear hK K)
  ((with_reducible refine wpStill_step (fun K hK => ?_)); go_simp; (with_reducible refine hK _ ?_); clear hK K)
  ((with_reducible refine wpStill_step (fun K hK => ?_)); go_simp; (with_reducible refine hK _ ?_); clear hK K)
  ((with_reducible refine wpStill_step (fun K hK => ?_)); go_simp; (with_reducible refine hK _ ?_); clear hK K)
  ((with_reducible refine wpStill_step (fun K hK => ?_)); go_simp; (with_reducible refine hK _ ?_); clear hK K)
  ((with_reducible refine wpStill_step (fun K hK => ?_)); go_simp; (with_reducible refine hK _ ?_); clear hK K)
  ((with_reducible refine wpStill_step (fun K hK => ?_)); go_simp; (with_reducible refine hK _ ?_); clear hK K)
  ((with_reducible refine wpStill_step (fun K hK => ?_)); go_simp; (with_reducible refine hK _ ?_); clear hK K)
  ((with_reducible refine wpStill_step (fun K hK => ?_)); go_simp; (with_reducible refine hK _ ?_); clear hK K)
  with_reducible refine wpStill_nil ?_
  refine seg_one 20 0 rfl (by kernel_rfl) (fun K hK => ?_)
  go_simp
  (with_reducible refine hK.out _ _ ?_)
  clear hK K
  refine seg_end (by kernel_rfl) ?_
  refine NoPanic.normal ?_
  go_wp2
  (try simp only [Exit.inBlock, Exit.then])
  refine bodyPost_ret (results_none rfl _ _ _) rfl ?_
  exact ⟨rfl, HM3.out, HK3.out⟩
end Go.Proofs.YtoiekhjmfoodiaaDoor
