/- The law JumpBlocks. -/
import Derived.StillTailTactics
import Derived.Test.YtfgnlohnalgnpaaG4
import Derived.Test.YtfgnlohnalgnpaaJ9
namespace Go.Proofs.Ytfgnlohnalgnpaa
open Go.RowKit

theorem range_past {W W' : World} {b o : Nat} {cs : List Value} (h : Below W.heap.size W W') (hr : W.rangeAt b o cs) : W'.rangeAt b o cs := fun j v hv =>
  (h.cell (World.block_lt_of_cell? W _ (hr j v hv))).trans (hr j v hv)
theorem there_past {W W' : World} {b o n : Nat} (h : Below W.heap.size W W') (ht : W.there b o n) : W'.there b o n := fun j hj => by
  obtain ⟨u, hu⟩ := Option.isSome_iff_exists.1 (ht j hj).1
  have hl := World.block_lt_of_cell? W _ hu
  exact ⟨by rw [h.cell hl]; exact (ht j hj).1, by rw [World.frozen?_of_block (h.block _ hl)]; exact (ht j hj).2⟩
theorem two_boxes (w : World) (o0 o1 : Obj) : ((w.alloc o0).alloc o1).heap[w.heap.size]? = some o0 ∧ ((w.alloc o0).alloc o1).heap[w.heap.size + 1]? = some o1 ∧ ((w.alloc o0).alloc o1).heap.size = w.heap.size + 2 ∧ Below w.heap.size w ((w.alloc o0).alloc o1) := by
  have n0 := World.alloc_heap_new w o0
  have n1 := World.alloc_heap_new (w.alloc o0) o1
  simp only [World.size_alloc] at n1
  exact ⟨(Below.heap_alloc _ _ _ (by simp)).trans n0, n1, by simp, belA (belA (Below.refl _ _) _) _⟩

set_option maxRecDepth 100000 in
set_option maxHeartbeats 4000000 in
theorem jumpBlocks_law (A : Option Addr) (l : List Bk) (n c : Nat) (hn : n = l.length) (r z : Int) (w : World) (h : RK encB 17 w A l) :
    Calls Try.prog 8 #[.slice A n c, .agg #[.int .i64 r, .int .i64 z]] w fun e w' => e = .returned (.bool true) ∧ Below w.heap.size w w' := by
  have HAW := Lib.hid awake_any
  have HB0 := Lib.hid (belA (Below.refl w.heap.size w) (.cells #[.int .i64 r, .int .i64 z] 37))
  have HNB := Lib.hid (World.alloc_heap_new w (.cells #[.int .i64 r, .int .i64 z] 37))
  by_cases hl : n ≤ 100
  · have hli : ¬ (100 : Int) < n := by omega
    have HR := Lib.hid (h.past HB0.out)
    have HN := Lib.hid hn
    have HBL := Lib.hid (fun W h => block_any r z A l n c hn (by omega) W h)
    have HLT : Hid (∀ x : Bk, lessB r z x.s0 x.s1 = !notAhead r z x) := Lib.hid (fun x => by simp [notAhead])
    generalize notAhead r z = p at *
    have HBX : Hid ((boxB (lastV p l).1).size = 17) := Lib.hid rfl
    have HB1 : Hid ((boxB (lastV p l).1).all (·.oneCell') = true) := Lib.hid (by simp [boxB, Value.oneCell'])
    clear h hn
    go_enter Try.func8, Try.ntmps8
    go_wp2_with (first
      | (go_at_call 9; (with_reducible refine (HAW.out _).mono ?_); rintro e w1 ⟨rfl, hb⟩; have HR1 := Lib.hid (HR.out.past hb); have hbx : w1.heap[w.heap.size]? = some (.cells #[.int .i64 r, .int .i64 z] 37) := (hb.block _ (by simp)).trans HNB.out; have c0 : w1.cell? ⟨w.heap.size, 0, none⟩ = some (.int .i64 r) := cell_of_row _ _ 0 _ _ _ hbx; have c1 : w1.cell? ⟨w.heap.size, 1, none⟩ = some (.int .i64 z) := cell_of_row _ _ 1 _ _ _ hbx; have HX1 := Lib.hid hbx; have HBW := Lib.hid (bel0 HB0.out hb); clear hb hbx HR)
      | (go_at_call 21; (with_reducible refine (HBL.out _ HR1.out).mono ?_); rintro e w2 ⟨rfl, hb⟩; have HR2 := Lib.hid (HR1.out.past hb); have HX2 := Lib.hid ((hb.block _ (Array.getElem?_eq_some_iff.1 HX1.out).1).trans HX1.out); have HBW2 := Lib.hid (bel0 HBW.out hb); clear hb HR1 HX1 HBW c0 c1)
      | (refine wpList_store_box rfl 39 (.tmp 5) (.tmp 22) rfl _ (boxB (lastV p l).1) rfl rfl (by rw [infoBk, HBX.out]) (by rw [HBX.out]; rfl) HB1.out (fun vz => ?_))
      | (refine wpList_store_box rfl 39 (.tmp 7) (.tmp 24) rfl _ (boxB zB) rfl rfl (by rw [infoBk]; rfl) rfl (by simp [boxB, Value.oneCell']) (fun vz => ?_)))
    have F := two_boxes w2 (.cells (boxB (lastV p l).1) 39) (.cells #[.int .u64 0, .int .i64 0, .int .i64 0, .int .i64 0, .int .i64 0, .int .i64 0, .int .i64 0, .int .i64 0, .int .i64 0, .int .i64 0, .int .i64 0, .int .i64 0, .int .i64 0, .bool false, .bool false, .string ⟨#[]⟩, .string ⟨#[]⟩] 39)
    generalize ((w2.alloc (.cells (boxB (lastV p l).1) 39)).alloc (.cells #[.int .u64 0, .int .i64 0, .int .i64 0, .int .i64 0, .int .i64 0, .int .i64 0, .int .i64 0, .int .i64 0, .int .i64 0, .int .i64 0, .int .i64 0, .int .i64 0, .int .i64 0, .bool false, .bool false, .string ⟨#[]⟩, .string ⟨#[]⟩] 39)) = w3 at F ⊢
    obtain ⟨y0, y1, hsz, hb3⟩ := F
    have hl0 : w.heap.size < w2.heap.size := (Array.getElem?_eq_some_iff.1 HX2.out).1
    have HBW3 := Lib.hid (bel0 HBW2.out hb3)
    have HX3 := Lib.hid ((hb3.block _ hl0).trans HX2.out)
    have HY0 : Hid (w3.rangeAt w2.heap.size 0 (encB (lastV p l).1)) := Lib.hid (range_of_cells y0)
    have HZ0 : Hid (w3.rangeAt (w2.heap.size + 1) 0 (encB zB)) := Lib.hid (range_of_cells (x := zB) y1)
    have HZ1 : Hid (w3.there (w2.heap.size + 1) 0 17) := Lib.hid (there_of_cells y1 (by simp))
    have HB3 := Lib.hid hb3
    have HSN := Lib.hid (lastV_snoc p l)
    clear y0 y1 hb3 HX2 HBW2
    go_loopg [8, 9] n (fun gh s8 s9 wx => ∃ i : Nat, i + gh = n ∧ s9 = .int .i64 i ∧ s8 = .bool (lastV p (l.take i)).2 ∧ Hid (wx.rangeAt (w2.heap.size + 1) 0 (encB (lastV p (l.take i)).1)) ∧ Hid (wx.there (w2.heap.size + 1) 0 17) ∧ Hid (Below (w2.heap.size + 1) w3 wx))
    case atStart => exact ⟨0, by omega, rfl, rfl, HZ0, HZ1, Lib.hid (Below.refl _ _)⟩
    case round =>
      obtain ⟨i, hi, rfl, rfl, HRA, HTH, HB⟩ := hrel
      cases gk with
      | zero =>
        obtain rfl : n = i := by omega
        have hall : l.take n = l := List.take_of_length_le (by rw [← HN.out]; exact Nat.le_refl _)
        have hra := HRA.out
        rw [hall] at hra ⊢
        have HRA2 := Lib.hid hra
        have HRB : Hid (wr.rangeAt w2.heap.size 0 (encB (lastV p l).1)) := Lib.hid fun j v hv => (HB.out.cell (p := ⟨w2.heap.size, 0 + j, none⟩) (Nat.lt_succ_self _)).trans (HY0.out j v hv)
        have HBF := Lib.hid (bel0 HBW3.out ((Below.refl w3.heap.size w3)))
        have hfin : Below w.heap.size w wr := HBW3.out.trans (HB.out.mono (by omega))
        have HFIN := Lib.hid hfin
        have hq := fun W => eqBlk W (lastV p l).1
        have hgu := guardBlk
        have HBE : Hid ((encB (lastV p l).1).toArray = boxB (lastV p l).1) := Lib.hid rfl
        have HBLN : Hid ((encB (lastV p l).1).length = 17) := Lib.hid rfl
        clear hra hfin hall HRA HTH HB HZ0 HZ1 HY0 HBX HB1
        generalize boxB (lastV p l).1 = bx at *
        generalize encB (lastV p l).1 = eb at *
        generalize (lastV p l).2 = ff at *
        go_upto_region 10 with fail
        refine wp_region_lit ?_
        iterate 4 (refine wpList_plain rfl (fun K hK => ?_); go_simp; refine hK _ _ ?_; clear hK K)
        refine BigFrame.wpList_want rfl (fun K hK => ?_)
        refine wp_load_mid 39 (.tmp 5) rfl w2.heap.size 0 rfl eb _ HRB.out Try.underlying39 rfl (by rw [infoBk, HBLN.out]) (hK _ _ ?_)
        clear hK K
        refine BigFrame.wpList_want rfl (fun K hK => ?_)
        refine wp_load_mid 39 (.tmp 7) rfl (w2.heap.size + 1) 0 rfl eb _ HRA2.out Try.underlying39 rfl (by rw [infoBk, HBLN.out]) (hK _ _ ?_)
        clear hK K
        rw [HBE.out]
        go_wp2
        go_ret
        exact ⟨rfl, HFIN.out⟩
      | succ gh =>
        have hlt : i < n := by omega
        have hii : (i : Int) < n := by omega
        obtain ⟨bb, off, rfl, hG⟩ := HR2.out.bk (fun e => by have := HN.out; rw [e] at this; simp at this; omega)
        obtain ⟨g0, gA⟩ := hG wr (HB3.out.trans (HB.out.mono (Nat.le_succ _)))
        have HC := gA i (HN.out ▸ hlt)
        have c2 := HC.c2
        have c3 := HC.c3
        have HRG := Lib.hid HC.range
        have c0 : wr.cell? ⟨w.heap.size, 0, none⟩ = some (.int .i64 r) := (HB.out.cell (p := ⟨w.heap.size, 0, none⟩) (by show w.heap.size < _; omega)).trans (cell_of_row _ _ 0 _ _ _ HX3.out)
        have c1 : wr.cell? ⟨w.heap.size, 1, none⟩ = some (.int .i64 z) := (HB.out.cell (p := ⟨w.heap.size, 1, none⟩) (by show w.heap.size < _; omega)).trans (cell_of_row _ _ 1 _ _ _ HX3.out)
        have HE := Lib.hid (HSN.out i (HN.out ▸ hlt))
        have HQ := Lib.hid (HLT.out (Bt l i))
        have HS3 : Hid (w2.heap.size + 1 ≤ wr.heap.size) := Lib.hid (by have := HB.out.size; omega)
        have HPAST : Hid (∀ W, Below wr.drew.heap.size wr.drew W → Below wr.heap.size wr W) := Lib.hid fun W hW => (Below.refl wr.heap.size wr).drew.trans hW
        clear hG gA HC HSN HBX HB1
        cases hq : p (Bt l i) with
        | false =>
          have HL := Lib.hid (fun W => refLess_as r z (Bt l i).s0 (Bt l i).s1 true (by rw [HQ.out, hq]; rfl) W)
          rw [hq, if_neg (by decide)] at HE
          clear hq HQ HRG
          generalize (Bt l i).s0 = x0 at *
          generalize (Bt l i).s1 = x1 at *
          go_wp2_with fail
          go_still_tail 6, (by kernel_rfl)
          change wpList _ _ _ _ _ wr.drew
          go_wp2_with (go_at_call 22; (with_reducible refine (HL.out _).mono ?_); rintro e w4 ⟨rfl, hb⟩)
          have hb4 := HPAST.out _ hb
          go_roundg gh
          case measure => omega
          case rel => exact ⟨i + 1, by omega, by go_num, by rw [HE.out], Lib.hid (by rw [HE.out]; exact range_past hb4 HRA.out), Lib.hid (there_past hb4 HTH.out), Lib.hid (HB.out.trans (hb4.mono HS3.out))⟩
        | true =>
          have HL := Lib.hid (fun W => refLess_as r z (Bt l i).s0 (Bt l i).s1 false (by rw [HQ.out, hq]; rfl) W)
          rw [hq, if_pos rfl] at HE
          have HBLN : Hid ((encB (Bt l i)).length = 17) := Lib.hid rfl
          have HBX : Hid ((encB (Bt l i)).toArray.size = 17) := Lib.hid rfl
          have HB1 : Hid ((encB (Bt l i)).toArray.all (·.oneCell') = true) := Lib.hid (by simp [encB, Value.oneCell'])
          have HEN : Hid (lastV p (l.take (i + 1)) = (Bt l i, true)) := HE
          have hen : Hid (encB (lastV p (l.take (i + 1))).1 = encB (Bt l i)) := Lib.hid (by rw [HE.out])
          clear hq HQ HE
          generalize (Bt l i).s0 = x0 at *
          generalize (Bt l i).s1 = x1 at *
          generalize encB (Bt l i) = eb at *
          go_wp2_with fail
          go_still_tail 6, (by kernel_rfl)
          change wpList _ _ _ _ _ wr.drew
          go_wp2_with (first
            | (go_at_call 22; (with_reducible refine (HL.out _).mono ?_); rintro e w4 ⟨rfl, hb⟩; have HB4 := Lib.hid (HPAST.out _ hb); have HT4 := Lib.hid (there_past HB4.out HTH.out); have HG4 := Lib.hid (range_past HB4.out HRG.out); clear hb)
            | (refine wpList_load_mid rfl 39 (.tmp 41) rfl bb (off + i * 17) rfl eb _ HG4.out Try.underlying39 rfl (by rw [infoBk, HBLN.out]) ?_)
            | (refine wpList_store_mid rfl 39 (.tmp 7) (.tmp 42) rfl (w2.heap.size + 1) 0 eb.toArray rfl rfl (by rw [HBX.out]; exact HT4.out) (by rw [infoBk, HBX.out]) HB1.out ?_))
          go_roundg gh
          case measure => omega
          case rel =>
            refine ⟨i + 1, by omega, by go_num, by rw [HEN.out], Lib.hid ?_, Lib.hid (World.there_setCells HT4.out _ _ _), Lib.hid ((HB.out.trans (HB4.out.mono HS3.out)).trans (Lib.below_setCells_w (Nat.le_refl _) _ _ _))⟩
            rw [hen.out]
            exact World.rangeAt_setCells_same w4 (w2.heap.size + 1) 0 eb (by rw [HBLN.out]; exact HT4.out)
  · have hli : (100 : Int) < n := by omega
    clear h hn
    go_enter Try.func8, Try.ntmps8
    go_wp2_with (go_at_call 9; (with_reducible refine (HAW.out _).mono ?_); rintro e w1 ⟨rfl, hb⟩; have HB1 := Lib.hid (bel0 HB0.out hb); clear hb)
    go_ret
    exact ⟨rfl, HB1.out⟩

end Go.Proofs.Ytfgnlohnalgnpaa
