/- The walk of the law AttrBack. -/
import Derived.Test.YtlndmfbopopmmaaDoorBv
namespace Go.Proofs.YtlndmfbopopmmaaDoor
open Go.RowKit

theorem ab_step {w0 W W' : World} {b0 b1 : Nat} {v0 v1 v2 v3 v4 u0 u1 u2 u3 u4 : Value} (h : ((W.cell? ⟨b0, 0, none⟩ = some v0 ∧ W.cell? ⟨b0, 1, none⟩ = some v1 ∧ W.cell? ⟨b0, 2, none⟩ = some v2 ∧ W.cell? ⟨b0, 3, none⟩ = some v3 ∧ W.cell? ⟨b0, 4, none⟩ = some v4) ∧ (W.cell? ⟨b1, 0, none⟩ = some u0 ∧ W.cell? ⟨b1, 1, none⟩ = some u1 ∧ W.cell? ⟨b1, 2, none⟩ = some u2 ∧ W.cell? ⟨b1, 3, none⟩ = some u3 ∧ W.cell? ⟨b1, 4, none⟩ = some u4)) ∧ (b0 < W.heap.size ∧ b1 < W.heap.size) ∧ Below w0.heap.size w0 W) (hb : Below W.heap.size W W') :
    ((W'.cell? ⟨b0, 0, none⟩ = some v0 ∧ W'.cell? ⟨b0, 1, none⟩ = some v1 ∧ W'.cell? ⟨b0, 2, none⟩ = some v2 ∧ W'.cell? ⟨b0, 3, none⟩ = some v3 ∧ W'.cell? ⟨b0, 4, none⟩ = some v4) ∧ (W'.cell? ⟨b1, 0, none⟩ = some u0 ∧ W'.cell? ⟨b1, 1, none⟩ = some u1 ∧ W'.cell? ⟨b1, 2, none⟩ = some u2 ∧ W'.cell? ⟨b1, 3, none⟩ = some u3 ∧ W'.cell? ⟨b1, 4, none⟩ = some u4)) ∧ (b0 < W'.heap.size ∧ b1 < W'.heap.size) ∧ Below w0.heap.size w0 W' :=
  ⟨⟨⟨(hb.cell (p := ⟨b0, 0, none⟩) h.2.1.1).trans h.1.1.1, (hb.cell (p := ⟨b0, 1, none⟩) h.2.1.1).trans h.1.1.2.1, (hb.cell (p := ⟨b0, 2, none⟩) h.2.1.1).trans h.1.1.2.2.1, (hb.cell (p := ⟨b0, 3, none⟩) h.2.1.1).trans h.1.1.2.2.2.1, (hb.cell (p := ⟨b0, 4, none⟩) h.2.1.1).trans h.1.1.2.2.2.2⟩, ⟨(hb.cell (p := ⟨b1, 0, none⟩) h.2.1.2).trans h.1.2.1, (hb.cell (p := ⟨b1, 1, none⟩) h.2.1.2).trans h.1.2.2.1, (hb.cell (p := ⟨b1, 2, none⟩) h.2.1.2).trans h.1.2.2.2.1, (hb.cell (p := ⟨b1, 3, none⟩) h.2.1.2).trans h.1.2.2.2.2.1, (hb.cell (p := ⟨b1, 4, none⟩) h.2.1.2).trans h.1.2.2.2.2.2⟩⟩, ⟨Nat.lt_of_lt_of_le h.2.1.1 hb.size, Nat.lt_of_lt_of_le h.2.1.2 hb.size⟩, bel0 h.2.2 hb⟩
theorem ab_below {w0 W : World} {b0 b1 : Nat} {v0 v1 v2 v3 v4 u0 u1 u2 u3 u4 : Value} (h : ((W.cell? ⟨b0, 0, none⟩ = some v0 ∧ W.cell? ⟨b0, 1, none⟩ = some v1 ∧ W.cell? ⟨b0, 2, none⟩ = some v2 ∧ W.cell? ⟨b0, 3, none⟩ = some v3 ∧ W.cell? ⟨b0, 4, none⟩ = some v4) ∧ (W.cell? ⟨b1, 0, none⟩ = some u0 ∧ W.cell? ⟨b1, 1, none⟩ = some u1 ∧ W.cell? ⟨b1, 2, none⟩ = some u2 ∧ W.cell? ⟨b1, 3, none⟩ = some u3 ∧ W.cell? ⟨b1, 4, none⟩ = some u4)) ∧ (b0 < W.heap.size ∧ b1 < W.heap.size) ∧ Below w0.heap.size w0 W) : Below w0.heap.size w0 W := h.2.2
/-- Two attributes' boxes. -/
structure BX (w W : World) (a b : AT) : Prop where
  below : Below w.heap.size w W
  box0 : W.heap[w.heap.size]? = some (.cells #[.int .i64 a.fk, .int .i64 a.fn, .int .i64 a.bk, .int .i64 a.bn, .int .i64 a.fl] 25 (0, 0))
  box1 : W.heap[w.heap.size + 1]? = some (.cells #[.int .i64 b.fk, .int .i64 b.fn, .int .i64 b.bk, .int .i64 b.bn, .int .i64 b.fl] 25 (0, 0))
theorem BX.start (w : World) (a b : AT) : BX w ((w.alloc (.cells #[.int .i64 a.fk, .int .i64 a.fn, .int .i64 a.bk, .int .i64 a.bn, .int .i64 a.fl] 25)).alloc (.cells #[.int .i64 b.fk, .int .i64 b.fn, .int .i64 b.bk, .int .i64 b.bn, .int .i64 b.fl] 25)) a b := by
  refine ⟨belA (belA (Below.refl _ _) _) _, alloc_block (heap_alloc_new w _), ?_⟩
  have h := heap_alloc_new (w.alloc (.cells #[.int .i64 a.fk, .int .i64 a.fn, .int .i64 a.bk, .int .i64 a.bn, .int .i64 a.fl] 25)) (.cells #[.int .i64 b.fk, .int .i64 b.fn, .int .i64 b.bk, .int .i64 b.bn, .int .i64 b.fl] 25)
  rw [show (w.alloc (.cells #[.int .i64 a.fk, .int .i64 a.fn, .int .i64 a.bk, .int .i64 a.bn, .int .i64 a.fl] 25)).heap.size = w.heap.size + 1 by simp] at h
  exact h
theorem BX.past {w W W' : World} {a b : AT} (h : BX w W a b) (hb : Below W.heap.size W W') : BX w W' a b :=
  ⟨bel0 h.below hb, (hb.block _ (lt_of_block h.box0)).trans h.box0, (hb.block _ (lt_of_block h.box1)).trans h.box1⟩
theorem BX.cells {w W : World} {a b : AT} (h : BX w W a b) : (W.cell? ⟨w.heap.size, 0, none⟩ = some (.int .i64 a.fk) ∧ W.cell? ⟨w.heap.size, 1, none⟩ = some (.int .i64 a.fn) ∧ W.cell? ⟨w.heap.size, 2, none⟩ = some (.int .i64 a.bk) ∧ W.cell? ⟨w.heap.size, 3, none⟩ = some (.int .i64 a.bn) ∧ W.cell? ⟨w.heap.size, 4, none⟩ = some (.int .i64 a.fl)) ∧ (W.cell? ⟨w.heap.size + 1, 0, none⟩ = some (.int .i64 b.fk) ∧ W.cell? ⟨w.heap.size + 1, 1, none⟩ = some (.int .i64 b.fn) ∧ W.cell? ⟨w.heap.size + 1, 2, none⟩ = some (.int .i64 b.bk) ∧ W.cell? ⟨w.heap.size + 1, 3, none⟩ = some (.int .i64 b.bn) ∧ W.cell? ⟨w.heap.size + 1, 4, none⟩ = some (.int .i64 b.fl)) :=
  ⟨⟨cell_of_row W _ 0 _ _ _ h.box0, cell_of_row W _ 1 _ _ _ h.box0, cell_of_row W _ 2 _ _ _ h.box0, cell_of_row W _ 3 _ _ _ h.box0, cell_of_row W _ 4 _ _ _ h.box0⟩, ⟨cell_of_row W _ 0 _ _ _ h.box1, cell_of_row W _ 1 _ _ _ h.box1, cell_of_row W _ 2 _ _ _ h.box1, cell_of_row W _ 3 _ _ _ h.box1, cell_of_row W _ 4 _ _ _ h.box1⟩⟩
theorem BX.held {w W : World} {a b : AT} (h : BX w W a b) : ((W.drew.cell? ⟨w.heap.size, 0, none⟩ = some (.int .i64 a.fk) ∧ W.drew.cell? ⟨w.heap.size, 1, none⟩ = some (.int .i64 a.fn) ∧ W.drew.cell? ⟨w.heap.size, 2, none⟩ = some (.int .i64 a.bk) ∧ W.drew.cell? ⟨w.heap.size, 3, none⟩ = some (.int .i64 a.bn) ∧ W.drew.cell? ⟨w.heap.size, 4, none⟩ = some (.int .i64 a.fl)) ∧ (W.drew.cell? ⟨w.heap.size + 1, 0, none⟩ = some (.int .i64 b.fk) ∧ W.drew.cell? ⟨w.heap.size + 1, 1, none⟩ = some (.int .i64 b.fn) ∧ W.drew.cell? ⟨w.heap.size + 1, 2, none⟩ = some (.int .i64 b.bk) ∧ W.drew.cell? ⟨w.heap.size + 1, 3, none⟩ = some (.int .i64 b.bn) ∧ W.drew.cell? ⟨w.heap.size + 1, 4, none⟩ = some (.int .i64 b.fl))) ∧ (w.heap.size < W.drew.heap.size ∧ w.heap.size + 1 < W.drew.heap.size) ∧ Below W.heap.size W W.drew :=
  ab_step ⟨h.cells, ⟨lt_of_block h.box0, lt_of_block h.box1⟩, Below.refl _ _⟩ (Below.refl _ _).drew

set_option maxRecDepth 100000 in
set_option maxHeartbeats 16000000 in
theorem attrBack_law (fk fn bk bn fl : Int) (h0 : -9223372036854775808 ≤ fl) (h63 : fl ≤ 9223372036854775807) (gk gn ck cn gl : Int) (k0 : -9223372036854775808 ≤ gl) (k63 : gl ≤ 9223372036854775807) (w : World) (hT : TT w) (hT10 : T10 w.heap.size w) :
    Calls Tryd.prog 6 #[.agg #[.int .i64 fk, .int .i64 fn, .int .i64 bk, .int .i64 bn, .int .i64 fl], .agg #[.int .i64 gk, .int .i64 gn, .int .i64 ck, .int .i64 cn, .int .i64 gl]] w fun e w' => e = .returned (.bool true) ∧ Below w.heap.size w w' := by
  have HA : Hid (∀ W, Below w.heap.size w W → Calls Tryd.prog 10 #[] W fun e w' => e = .returned (.bool true) ∧ Below W.heap.size W w') := Lib.hid fun W hW => awakeA_any W (hT.below hW) (hT10.on hW hW.size)
  have HDA := Lib.hid (fun W => rightD_any fk fn bk bn fl h63 W)
  have HDB := Lib.hid (fun W => rightD_any gk gn ck cn gl k63 W)
  rw [← right_same fk fn bk bn fl h0 h63] at HDA
  rw [← right_same gk gn ck cn gl k0 k63] at HDB
  have HX0 := Lib.hid (BX.start w ⟨fk, fn, bk, bn, fl⟩ ⟨gk, gn, ck, cn, gl⟩)
  cases ra : rightB fk fn bk bn fl with
  | false =>
    rw [ra] at HDA
    clear hT hT10 ra h0 h63 k0 k63 HDB
    go_enter Tryd.func6, Tryd.ntmps6
    go_wp2_with (first
      | (go_at_call 9; (with_reducible refine (HDA.out _).mono ?_); rintro e w2 ⟨rfl, hb2⟩; have HX2 := Lib.hid (HX0.out.past hb2); clear hb2)
      | (go_at_call 10; (with_reducible refine (HA.out _ HX2.out.below).mono ?_); rintro e w3 ⟨rfl, hb3⟩; have HX3 := Lib.hid (HX2.out.past hb3); clear hb3))
    go_ret
    exact ⟨rfl, HX3.out.below⟩
  | true =>
    rw [ra] at HDA
    cases rb : rightB gk gn ck cn gl with
    | false =>
      rw [rb] at HDB
      clear hT hT10 ra rb h0 h63 k0 k63
      go_enter Tryd.func6, Tryd.ntmps6
      go_wp2_with (first
        | (go_at_call 9; first
          | ((with_reducible refine (HDA.out _).mono ?_); clear HDA; rintro e w2 ⟨rfl, hb2⟩; have HX2 := Lib.hid (HX0.out.past hb2); obtain ⟨⟨x0, x1, x2, x3, x4⟩, y0, y1, y2, y3, y4⟩ := HX2.out.cells; clear hb2)
          | ((with_reducible refine (HDB.out _).mono ?_); rintro e w3 ⟨rfl, hb3⟩; have HX3 := Lib.hid (HX2.out.past hb3); clear hb3))
        | (go_at_call 10; (with_reducible refine (HA.out _ HX3.out.below).mono ?_); rintro e w4 ⟨rfl, hb4⟩; have HX4 := Lib.hid (HX3.out.past hb4); clear hb4))
      go_ret
      exact ⟨rfl, HX4.out.below⟩
    | true =>
      rw [rb] at HDB
      have hok : okAT ⟨gk, gn, ck, cn, gl⟩ = true := by rw [← okAT_right ⟨gk, gn, ck, cn, gl⟩ k0 k63]; exact rb
      obtain ⟨hp1, hp2⟩ := text_parsed ⟨gk, gn, ck, cn, gl⟩ hok
      obtain ⟨hn1, hn2⟩ := numsP_mem ⟨gk, gn, ck, cn, gl⟩ hok
      have hback := turn_back ⟨fk, fn, bk, bn, fl⟩ ⟨gk, gn, ck, cn, gl⟩ hok
      have HTX : Hid (∀ W, Below w.heap.size w W → Calls Tryd.prog 15 #[.agg #[.int .i64 gk, .int .i64 gn, .int .i64 ck, .int .i64 cn, .int .i64 gl]] W fun e w' => e = .returned (.string (bsB (layT [] (numsP ⟨gk, gn, ck, cn, gl⟩)))) ∧ Below W.heap.size W w') := Lib.hid fun W hW => attrText_any ⟨gk, gn, ck, cn, gl⟩ W rb (hT.below hW) (hT10.on hW hW.size)
      have HCH : Hid (∀ W, Below w.heap.size w W → Calls Tryd.prog 18 #[.agg #[.int .i64 fk, .int .i64 fn, .int .i64 bk, .int .i64 bn, .int .i64 fl], .agg #[.int .i64 gk, .int .i64 gn, .int .i64 ck, .int .i64 cn, .int .i64 gl]] W fun e w' => e = .returned (.string (if eqAT ⟨fk, fn, bk, bn, fl⟩ ⟨gk, gn, ck, cn, gl⟩ = true then ⟨#[]⟩ else bsB (layT [] (numsP ⟨gk, gn, ck, cn, gl⟩)))) ∧ Below W.heap.size W w') := Lib.hid fun W hW => by
        have h := change_any ⟨fk, fn, bk, bn, fl⟩ ⟨gk, gn, ck, cn, gl⟩ W (hT.below hW) (hT10.on hW hW.size)
        have e : changeP ⟨fk, fn, bk, bn, fl⟩ ⟨gk, gn, ck, cn, gl⟩ = (if eqAT ⟨fk, fn, bk, bn, fl⟩ ⟨gk, gn, ck, cn, gl⟩ = true then ⟨#[]⟩ else bsB (layT [] (numsP ⟨gk, gn, ck, cn, gl⟩))) := by
          unfold changeP
          rw [if_pos (show rightB gk gn ck cn gl = true from rb)]
        rw [e] at h
        exact h
      have hlen := layT_len [] (numsP ⟨gk, gn, ck, cn, gl⟩) (fun z hz => by have := hn1 z hz; omega)
      have HPA : Hid (∀ W, Calls Tryd.prog 17 #[.string (bsB (layT [] (numsP ⟨gk, gn, ck, cn, gl⟩)))] W fun e w' => ∃ A c, e = .returned (.tuple #[.slice A (ones (numsP ⟨gk, gn, ck, cn, gl⟩)).length c, .bool true]) ∧ RG w' w'.heap.size A (ones (numsP ⟨gk, gn, ck, cn, gl⟩)) ∧ (ones (numsP ⟨gk, gn, ck, cn, gl⟩)).length ≤ c ∧ Below W.heap.size W w') := Lib.hid fun W => by
        have h := refParse_cap (bsB (layT [] (numsP ⟨gk, gn, ck, cn, gl⟩))) W (by rw [bsB_size]; simp at hlen; omega)
        refine h.mono fun e w' h => ?_
        have ed : (bsB (layT [] (numsP ⟨gk, gn, ck, cn, gl⟩))).data.toList = layT [] (numsP ⟨gk, gn, ck, cn, gl⟩) := by simp [bsB]
        unfold ParsePostC at h
        rw [ed, hp1, hp2] at h
        rcases h with ⟨h, _⟩ | ⟨_, h⟩
        · cases h
        · exact h
      have HTU : Hid (∀ W A c, Below w.heap.size w W → (ones (numsP ⟨gk, gn, ck, cn, gl⟩)).length ≤ c → RG W W.heap.size A (ones (numsP ⟨gk, gn, ck, cn, gl⟩)) → Calls Tryd.prog 13 #[.agg #[.int .i64 fk, .int .i64 fn, .int .i64 bk, .int .i64 bn, .int .i64 fl], .slice A (ones (numsP ⟨gk, gn, ck, cn, gl⟩)).length c] W fun e w' => e = .returned (.agg #[.int .i64 gk, .int .i64 gn, .int .i64 ck, .int .i64 cn, .int .i64 gl]) ∧ Below W.heap.size W w') := Lib.hid fun W A c hW hc hr => by
        have h := turn_any ⟨fk, fn, bk, bn, fl⟩ A (ones (numsP ⟨gk, gn, ck, cn, gl⟩)) _ c rfl hc (fun g hg => by obtain ⟨z, _, rfl⟩ := List.mem_map.1 hg; simp) (fun g hg => by
          obtain ⟨z, hz, rfl⟩ := List.mem_map.1 hg
          have := hn1 z hz
          show most0Z z ≤ 65535
          unfold most0Z
          split <;> omega) W (hT.below hW) hr
        rw [hback] at h
        exact h
      clear hlen hp1 hp2 hn1 hn2 hback hok
      generalize ones (numsP ⟨gk, gn, ck, cn, gl⟩) = L at *
      generalize bsB (layT [] (numsP ⟨gk, gn, ck, cn, gl⟩)) = SB at *
      have hg := Attr_guard
      have hq1 := fun W => eqAttr W fk fn bk bn fl gk gn ck cn gl
      have hq2 := fun W => eqAttr W gk gn ck cn gl gk gn ck cn gl
      rw [eqAT_self] at hq2
      generalize eqAT ⟨fk, fn, bk, bn, fl⟩ ⟨gk, gn, ck, cn, gl⟩ = d at *
      clear hT hT10 ra rb h0 h63 k0 k63
      cases d with
      | true =>
        rw [if_pos rfl] at HCH
        go_enter Tryd.func6, Tryd.ntmps6
        go_upto_region 6 with (first
          | (go_at_call 9; first
            | ((with_reducible refine (HDA.out _).mono ?_); clear HDA; rintro e w2 ⟨rfl, hb2⟩; have HX2 := Lib.hid (HX0.out.past hb2); obtain ⟨⟨x0, x1, x2, x3, x4⟩, y0, y1, y2, y3, y4⟩ := HX2.out.cells; clear hb2)
            | ((with_reducible refine (HDB.out _).mono ?_); rintro e w3 ⟨rfl, hb3⟩; have HX3 := Lib.hid (HX2.out.past hb3); obtain ⟨⟨x0, x1, x2, x3, x4⟩, y0, y1, y2, y3, y4⟩ := HX3.out.cells; clear hb3))
          | (go_at_call 15; (with_reducible refine (HTX.out _ HX3.out.below).mono ?_); rintro e w4 ⟨rfl, hb4⟩; have HX4 := Lib.hid (HX3.out.past hb4); obtain ⟨⟨x0, x1, x2, x3, x4⟩, y0, y1, y2, y3, y4⟩ := HX4.out.cells; clear hb4)
          | (go_at_call 17; ((with_reducible refine (HPA.out w4).mono ?_); rintro e w5 ⟨A5, c5, rfl, hr5, hl5, hb5⟩; have HR5 := Lib.hid (And.intro hr5 hl5); have HX5 := Lib.hid (HX4.out.past hb5); obtain ⟨⟨x0, x1, x2, x3, x4⟩, y0, y1, y2, y3, y4⟩ := HX5.out.cells; clear hb5 hr5 hl5))
          | (go_at_call 18; (with_reducible refine (HCH.out _ HX5.out.below).mono ?_); rintro e w6 ⟨rfl, hb6⟩; have HR6 := Lib.hid (And.intro (HR5.out.1.past hb6) HR5.out.2); have HX6 := Lib.hid (HX5.out.past hb6); obtain ⟨⟨x0, x1, x2, x3, x4⟩, y0, y1, y2, y3, y4⟩ := HX6.out.cells; clear hb6))
        have hSd : ((w6.drew.cell? ⟨w.heap.size, 0, none⟩ = some (.int .i64 fk) ∧ w6.drew.cell? ⟨w.heap.size, 1, none⟩ = some (.int .i64 fn) ∧ w6.drew.cell? ⟨w.heap.size, 2, none⟩ = some (.int .i64 bk) ∧ w6.drew.cell? ⟨w.heap.size, 3, none⟩ = some (.int .i64 bn) ∧ w6.drew.cell? ⟨w.heap.size, 4, none⟩ = some (.int .i64 fl)) ∧ (w6.drew.cell? ⟨w.heap.size + 1, 0, none⟩ = some (.int .i64 gk) ∧ w6.drew.cell? ⟨w.heap.size + 1, 1, none⟩ = some (.int .i64 gn) ∧ w6.drew.cell? ⟨w.heap.size + 1, 2, none⟩ = some (.int .i64 ck) ∧ w6.drew.cell? ⟨w.heap.size + 1, 3, none⟩ = some (.int .i64 cn) ∧ w6.drew.cell? ⟨w.heap.size + 1, 4, none⟩ = some (.int .i64 gl))) ∧ (w.heap.size < w6.drew.heap.size ∧ w.heap.size + 1 < w6.drew.heap.size) ∧ Below w6.heap.size w6 w6.drew := HX6.out.held
        clear x0 x1 x2 x3 x4 y0 y1 y2 y3 y4
        go_region_held3 (fun W => ((W.cell? ⟨w.heap.size, 0, none⟩ = some (.int .i64 fk) ∧ W.cell? ⟨w.heap.size, 1, none⟩ = some (.int .i64 fn) ∧ W.cell? ⟨w.heap.size, 2, none⟩ = some (.int .i64 bk) ∧ W.cell? ⟨w.heap.size, 3, none⟩ = some (.int .i64 bn) ∧ W.cell? ⟨w.heap.size, 4, none⟩ = some (.int .i64 fl)) ∧ (W.cell? ⟨w.heap.size + 1, 0, none⟩ = some (.int .i64 gk) ∧ W.cell? ⟨w.heap.size + 1, 1, none⟩ = some (.int .i64 gn) ∧ W.cell? ⟨w.heap.size + 1, 2, none⟩ = some (.int .i64 ck) ∧ W.cell? ⟨w.heap.size + 1, 3, none⟩ = some (.int .i64 cn) ∧ W.cell? ⟨w.heap.size + 1, 4, none⟩ = some (.int .i64 gl))) ∧ (w.heap.size < W.heap.size ∧ w.heap.size + 1 < W.heap.size) ∧ Below w6.heap.size w6 W)
          (first | exact hSd | exact ab_step hSd hb9 | exact ab_step (by assumption) hb9)
          (first
            | (go_at_call 13; (with_reducible refine (HTU.out _ _ _ ?_ HR6.out.2 ?_).mono ?_); (first | exact bel0 HX6.out.below (ab_below (by assumption)) | exact bel0 HX6.out.below (ab_below hSd)); (first | exact HR6.out.1.past (ab_below (by assumption)) | exact HR6.out.1.past (ab_below hSd)); rintro e9 w9 ⟨rfl, hb9⟩)
            | (go_at_call 10; (with_reducible refine (HA.out _ ?_).mono ?_); (first | exact bel0 HX6.out.below (ab_below (by assumption)) | exact bel0 HX6.out.below (ab_below hSd)); rintro e9 w9 ⟨rfl, hb9⟩))
        all_goals
          have HBN := Lib.hid (bel0 HX6.out.below (ab_below (by assumption)))
          go_wp2
          go_ret
          exact ⟨rfl, HBN.out⟩
      | false =>
        rw [if_neg (by decide)] at HCH
        go_enter Tryd.func6, Tryd.ntmps6
        go_upto_region 8 with (first
          | (go_at_call 9; first
            | ((with_reducible refine (HDA.out _).mono ?_); clear HDA; rintro e w2 ⟨rfl, hb2⟩; have HX2 := Lib.hid (HX0.out.past hb2); obtain ⟨⟨x0, x1, x2, x3, x4⟩, y0, y1, y2, y3, y4⟩ := HX2.out.cells; clear hb2)
            | ((with_reducible refine (HDB.out _).mono ?_); rintro e w3 ⟨rfl, hb3⟩; have HX3 := Lib.hid (HX2.out.past hb3); obtain ⟨⟨x0, x1, x2, x3, x4⟩, y0, y1, y2, y3, y4⟩ := HX3.out.cells; clear hb3))
          | (go_at_call 15; (with_reducible refine (HTX.out _ HX3.out.below).mono ?_); rintro e w4 ⟨rfl, hb4⟩; have HX4 := Lib.hid (HX3.out.past hb4); obtain ⟨⟨x0, x1, x2, x3, x4⟩, y0, y1, y2, y3, y4⟩ := HX4.out.cells; clear hb4)
          | (go_at_call 17; first | ((with_reducible refine (HPA.out w6).mono ?_); rintro e w7 ⟨A7, c7, rfl, hr7, hl7, hb7⟩; have HR7 := Lib.hid (And.intro hr7 hl7); have HR57 := Lib.hid (HR6.out.1.past hb7); have HX7 := Lib.hid (HX6.out.past hb7); obtain ⟨⟨x0, x1, x2, x3, x4⟩, y0, y1, y2, y3, y4⟩ := HX7.out.cells; clear hb7 hr7 hl7) | ((with_reducible refine (HPA.out w4).mono ?_); rintro e w5 ⟨A5, c5, rfl, hr5, hl5, hb5⟩; have HR5 := Lib.hid (And.intro hr5 hl5); have HX5 := Lib.hid (HX4.out.past hb5); obtain ⟨⟨x0, x1, x2, x3, x4⟩, y0, y1, y2, y3, y4⟩ := HX5.out.cells; clear hb5 hr5 hl5))
          | (go_at_call 18; (with_reducible refine (HCH.out _ HX5.out.below).mono ?_); rintro e w6 ⟨rfl, hb6⟩; have HR6 := Lib.hid (And.intro (HR5.out.1.past hb6) HR5.out.2); have HX6 := Lib.hid (HX5.out.past hb6); obtain ⟨⟨x0, x1, x2, x3, x4⟩, y0, y1, y2, y3, y4⟩ := HX6.out.cells; clear hb6))
        have hSd : ((w7.drew.cell? ⟨w.heap.size, 0, none⟩ = some (.int .i64 fk) ∧ w7.drew.cell? ⟨w.heap.size, 1, none⟩ = some (.int .i64 fn) ∧ w7.drew.cell? ⟨w.heap.size, 2, none⟩ = some (.int .i64 bk) ∧ w7.drew.cell? ⟨w.heap.size, 3, none⟩ = some (.int .i64 bn) ∧ w7.drew.cell? ⟨w.heap.size, 4, none⟩ = some (.int .i64 fl)) ∧ (w7.drew.cell? ⟨w.heap.size + 1, 0, none⟩ = some (.int .i64 gk) ∧ w7.drew.cell? ⟨w.heap.size + 1, 1, none⟩ = some (.int .i64 gn) ∧ w7.drew.cell? ⟨w.heap.size + 1, 2, none⟩ = some (.int .i64 ck) ∧ w7.drew.cell? ⟨w.heap.size + 1, 3, none⟩ = some (.int .i64 cn) ∧ w7.drew.cell? ⟨w.heap.size + 1, 4, none⟩ = some (.int .i64 gl))) ∧ (w.heap.size < w7.drew.heap.size ∧ w.heap.size + 1 < w7.drew.heap.size) ∧ Below w7.heap.size w7 w7.drew := HX7.out.held
        clear x0 x1 x2 x3 x4 y0 y1 y2 y3 y4
        go_region_held3 (fun W => ((W.cell? ⟨w.heap.size, 0, none⟩ = some (.int .i64 fk) ∧ W.cell? ⟨w.heap.size, 1, none⟩ = some (.int .i64 fn) ∧ W.cell? ⟨w.heap.size, 2, none⟩ = some (.int .i64 bk) ∧ W.cell? ⟨w.heap.size, 3, none⟩ = some (.int .i64 bn) ∧ W.cell? ⟨w.heap.size, 4, none⟩ = some (.int .i64 fl)) ∧ (W.cell? ⟨w.heap.size + 1, 0, none⟩ = some (.int .i64 gk) ∧ W.cell? ⟨w.heap.size + 1, 1, none⟩ = some (.int .i64 gn) ∧ W.cell? ⟨w.heap.size + 1, 2, none⟩ = some (.int .i64 ck) ∧ W.cell? ⟨w.heap.size + 1, 3, none⟩ = some (.int .i64 cn) ∧ W.cell? ⟨w.heap.size + 1, 4, none⟩ = some (.int .i64 gl))) ∧ (w.heap.size < W.heap.size ∧ w.heap.size + 1 < W.heap.size) ∧ Below w7.heap.size w7 W)
          (first | exact hSd | exact ab_step hSd hb9 | exact ab_step (by assumption) hb9)
          (first
            | (go_at_call 13; (first
                | ((with_reducible refine (HTU.out _ A5 c5 ?_ HR6.out.2 ?_).mono ?_); (first | exact bel0 HX7.out.below (ab_below (by assumption)) | exact bel0 HX7.out.below (ab_below hSd)); (first | exact HR57.out.past (ab_below (by assumption)) | exact HR57.out.past (ab_below hSd)); rintro e9 w9 ⟨rfl, hb9⟩)
                | ((with_reducible refine (HTU.out _ A7 c7 ?_ HR7.out.2 ?_).mono ?_); (first | exact bel0 HX7.out.below (ab_below (by assumption)) | exact bel0 HX7.out.below (ab_below hSd)); (first | exact HR7.out.1.past (ab_below (by assumption)) | exact HR7.out.1.past (ab_below hSd)); rintro e9 w9 ⟨rfl, hb9⟩)))
            | (go_at_call 10; (with_reducible refine (HA.out _ ?_).mono ?_); (first | exact bel0 HX7.out.below (ab_below (by assumption)) | exact bel0 HX7.out.below (ab_below hSd)); rintro e9 w9 ⟨rfl, hb9⟩))
        all_goals
          have HBN := Lib.hid (bel0 HX7.out.below (ab_below (by assumption)))
          go_wp2
          go_ret
          exact ⟨rfl, HBN.out⟩

end Go.Proofs.YtlndmfbopopmmaaDoor
