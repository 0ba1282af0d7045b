/- The walk of Of; the law JumpOf. -/
import Derived.Test.YtfgnlohnalgnpaaE5
import Derived.Test.YtfgnlohnalgnpaaE2
import Derived.Deep.MidRow
import Derived.Deep.WholeRow
import Derived.Deep.Cut
namespace Go.Proofs.Ytfgnlohnalgnpaa
open Go.RowKit

theorem infoBk : (Try.prog.info? 39).map (·.size) = some 17 := by kernel_rfl
theorem BC.range {w : World} {b o : Nat} {x : Bk} (h : BC w b o x) : w.rangeAt b o (encB x) := fun j v hj => by
  have hj17 : j < 17 := (List.getElem?_eq_some_iff.1 hj).1
  match j, hj17, hj with
  | 0, _, hj => cases hj; exact h.c0
  | 1, _, hj => cases hj; exact h.c1
  | 2, _, hj => cases hj; exact h.c2
  | 3, _, hj => cases hj; exact h.c3
  | 4, _, hj => cases hj; exact h.c4
  | 5, _, hj => cases hj; exact h.c5
  | 6, _, hj => cases hj; exact h.c6
  | 7, _, hj => cases hj; exact h.c7
  | 8, _, hj => cases hj; exact h.c8
  | 9, _, hj => cases hj; exact h.c9
  | 10, _, hj => cases hj; exact h.c10
  | 11, _, hj => cases hj; exact h.c11
  | 12, _, hj => cases hj; exact h.c12
  | 13, _, hj => cases hj; exact h.c13
  | 14, _, hj => cases hj; exact h.c14
  | 15, _, hj => cases hj; exact h.c15
  | 16, _, hj => cases hj; exact h.c16
/-- A block in the box that was made last. -/
theorem box_range (w : World) (x : Bk) : (w.alloc (.cells (boxB x) 39)).rangeAt w.heap.size 0 (encB x) := fun j v hj => by
  rw [Nat.zero_add, cell_of_row _ _ j _ _ _ (heap_alloc_new w _), ← hj]
  simp [boxB, encB]
/-- A struct stored into the box that was made last. -/
theorem wpList_store_box {P : Program} {ops : Array Oper} {rest : List Oper} {op : Oper} {a : Act} {w : World} {Q : Exit → Act → World → Prop} (hgd : op.guard = none) (t : TypeId) (x y : Operand) (ho : op.op = .store t x y)
    (c c' : Array Value) (hx : a.eval x = .pointer (some ⟨w.heap.size, 0, none⟩)) (hy : a.eval y = .agg c') (hi : (P.info? t).map (·.size) = some c'.size) (hs : c.size = c'.size) (h1 : c'.all (·.oneCell') = true)
    (h : ∀ v, wpList P ops Q rest (a.put op.dst v) (w.alloc (.cells c' t))) : wpList P ops Q (op :: rest) a (w.alloc (.cells c t)) :=
  wpList_plain hgd fun K hK => by
    have hr := run_storeAt_new (P := P) w t c c' hi hs h1
    unfold Oper.wp execOp
    simp only [ho, hx, hy, hr, Sem.run_bind, Sem.run_pure, Result.andThen_ok]
    exact hK _ _ (h _)
def ofS (k : Int) (rows : List Int) (b : Bk) : List Int := if (stopV b k).2 then rows ++ [(stopV b k).1] else rows
def ofL (k : Int) (l : List Bk) : List Int := l.foldl (ofS k) []
theorem of_snoc (k : Int) (l : List Bk) (i : Nat) (h : i < l.length) : ofL k (l.take (i + 1)) = ofS k (ofL k (l.take i)) (Bt l i) := by
  rw [take_snocB l i h]
  simp [ofL]
theorem of_len (k : Int) (l : List Bk) : ∀ i, i ≤ l.length → (ofL k (l.take i)).length ≤ i
  | 0, _ => by simp [ofL]
  | i + 1, h => by
    rw [of_snoc k l i (by omega)]
    have := of_len k l i (by omega)
    unfold ofS
    split
    · simp; omega
    · omega
theorem of_in (k : Int) (l : List Bk) (hl : ∀ b ∈ l, InB b.s0 ∧ InB b.o0) : ∀ i, i ≤ l.length → ∀ x ∈ ofL k (l.take i), InB x
  | 0, _ => by simp [ofL]
  | i + 1, h => by
    rw [of_snoc k l i (by omega)]
    have ih := of_in k l hl i (by omega)
    have hb := hl _ (bt_mem (L := l) (i := i) (by omega))
    unfold ofS
    split
    · intro x hx
      rcases List.mem_append.1 hx with hx | hx
      · exact ih x hx
      · simp only [List.mem_singleton] at hx
        subst hx
        unfold stopV
        repeat' split
        all_goals first | exact hb.1 | exact hb.2 | exact ⟨by decide, by decide⟩
    · exact ih
theorem bel1' {B : Nat} {w w1 w2 : World} {o : Obj} (h : Below B w (w1.alloc o)) (hs : B ≤ w1.heap.size) (h2 : Below (w1.alloc o).heap.size (w1.alloc o) w2) : Below B w w2 := h.trans (h2.mono (by rw [World.size_alloc]; omega))
set_option maxRecDepth 100000 in
set_option maxHeartbeats 8000000 in
theorem of_any (A : Option Addr) (l : List Bk) (n c : Nat) (hn : n = l.length) (hl : n ≤ 1000) (k : Int) (w : World) (h : RK encB 17 w A l) :
    Calls Try.prog 20 #[.slice A n c, .int .i64 k] w (NumsPost (uqI (ofL k l)) w) := by
  obtain ⟨i0, hi0, hz0, hz1, hz2⟩ := info_parts Try.infoInt
  have HR := Lib.hid h
  have HN := Lib.hid hn
  have HLN := Lib.hid (of_len k l)
  clear h hn
  go_enter Try.func20, Try.ntmps20
  go_wp2
  go_loopg [5, 7, 8, 9, 12] n (fun gh s5 s7 s8 s9 s12 wx => ∃ (i m : Nat) (A1 : Option Addr) (c1 : Nat), i + gh = n ∧ s12 = .int .i64 i ∧ s5 = .slice A1 m c1 ∧ w.heap.size ≤ wx.heap.size ∧ Hid (m = (ofL k (l.take i)).length) ∧ Hid (wx.ownsRow w.heap.size 3 1 (.slice A1 m c1) m (numV (ofL k (l.take i)))) ∧ Hid (Below w.heap.size w wx))
  case atStart => exact ⟨0, 0, none, 0, by omega, rfl, rfl, Nat.le_refl _, Lib.hid rfl, Lib.hid (World.ownsRow_nil _ _ _ _), Lib.hid (Below.refl _ _)⟩
  case round =>
    obtain ⟨i, m, A1, c1, hi, rfl, rfl, hs, HM, HO, HB⟩ := hrel
    have hm4 : m ≤ 1000 := by have := HLN.out i (by rw [← HN.out]; omega); have := HM.out; omega
    cases gk with
    | zero =>
      obtain rfl : n = i := by omega
      have HS : Hid (Calls Try.prog 18 #[.slice A1 m c1] wr fun e w' => ∃ A c, e = .returned (.slice A (uqI (ofL k l)).length c) ∧ RI w' w'.heap.size A (uqI (ofL k l)) ∧ Below w.heap.size w w') := Lib.hid (by
        have e : l.take n = l := List.take_of_length_le (by rw [← HN.out]; exact Nat.le_refl _)
        have ho := HO.out
        have hm := HM.out
        rw [e] at ho hm
        exact (sort_any A1 (ofL k l) m c1 hm (by omega) wr (RI.of_own ho)).mono fun e w' ⟨A, c, he, hr, hb⟩ => ⟨A, c, he, hr, bel0 HB.out hb⟩)
      clear HO HM HLN
      go_wp2_with (go_at_call 18; (with_reducible refine HS.out.mono ?_); rintro e w3 ⟨A3, c3, rfl, hr, hb⟩; have HR3 := Lib.hid hr; have HB3 := Lib.hid hb; clear hr hb HS)
      go_ret
      exact ⟨A3, c3, rfl, HR3.out, HB3.out⟩
    | succ gh =>
      have hlt : i < n := by omega
      have hii : (i : Int) < n := by omega
      obtain ⟨bb, off, rfl, hG⟩ := HR.out.bk (fun e => by have := HN.out; rw [e] at this; simp at this; omega)
      obtain ⟨g0, gA⟩ := hG _ HB.out
      have HRG := Lib.hid (gA i (HN.out ▸ hlt)).range
      have HBR := Lib.hid (box_range wr (Bt l i))
      have HSN := Lib.hid (of_snoc k l i (HN.out ▸ hlt))
      have HST := Lib.hid (fun W => stop_any (Bt l i) k W)
      have HB1 := Lib.hid (HB.out.alloc hs (.cells (boxB (Bt l i)) 39))
      have HO1 := Lib.hid (HO.out.alloc (.cells (boxB (Bt l i)) 39))
      clear hG gA HLN HO HB
      have HSS : Hid (ofS k (ofL k (l.take i)) (Bt l i) = if (stopV (Bt l i) k).2 then ofL k (l.take i) ++ [(stopV (Bt l i) k).1] else ofL k (l.take i)) := Lib.hid rfl
      rw [HSS.out] at HSN
      clear HSS
      generalize stopV (Bt l i) k = st at *
      have hb17 : (boxB (Bt l i)).size = 17 := rfl
      have hb1c : (boxB (Bt l i)).all (·.oneCell') = true := by simp [boxB, Value.oneCell']
      have hbe : (encB (Bt l i)).toArray = boxB (Bt l i) := rfl
      have hbl : (encB (Bt l i)).length = 17 := rfl
      have HB17 := Lib.hid hb17
      have HB1C := Lib.hid hb1c
      have HBE := Lib.hid hbe
      have HBLN := Lib.hid hbl
      clear hb17 hb1c hbe hbl
      generalize boxB (Bt l i) = bx at *
      generalize encB (Bt l i) = eb at *
      obtain ⟨bx', hbx'⟩ : ∃ b, b = bx := ⟨_, rfl⟩
      clear hbx' bx'
      obtain ⟨v, f⟩ := st
      simp only at HSN
      go_upto_region 4 with fail
      refine wp_region_lit ?_
      refine wpList_plain rfl (fun K hK => ?_)
      go_simp
      refine hK _ _ ?_
      clear hK K
      refine wpList_load_mid rfl 39 (.tmp 14) rfl bb (off + i * 17) rfl eb _ HRG.out Try.underlying39 rfl (by rw [infoBk, HBLN.out]) ?_
      rw [HBE.out]
      refine wpList_plain rfl (fun K hK => ?_)
      go_simp
      refine hK _ _ ?_
      clear hK K
      refine wpList_store_box rfl 39 (.tmp 7) (.tmp 15) rfl _ bx rfl rfl (by rw [infoBk, HB17.out]) (by rw [HB17.out]; rfl) HB1C.out (fun vz => ?_)
      refine wpList_nil ?_
      go_upto_region 5 with fail
      refine wp_region_lit ?_
      refine wpList_load_mid rfl 39 (.tmp 7) rfl wr.heap.size 0 rfl eb _ HBR.out Try.underlying39 rfl (by rw [infoBk, HBLN.out]) ?_
      rw [HBE.out]
      cases f with
      | false =>
        have HE : Hid (ofL k (l.take (i + 1)) = ofL k (l.take i)) := Lib.hid HSN.out
        clear HSN
        go_wp2_with (go_at_call 35; (with_reducible refine (HST.out _).mono ?_); rintro e w3 ⟨rfl, hb⟩; have hs3 : w.heap.size ≤ w3.heap.size := (by have := hb.size; simp at this; omega); have HB3 := Lib.hid (bel1' HB1.out hs hb); have HO3 := Lib.hid (own_pastK HO1.out hb); clear hb HST)
        go_roundg gh
        case measure => omega
        case rel => exact ⟨i + 1, m, A1, c1, by omega, by go_num, rfl, hs3, Lib.hid (by rw [HE.out]; exact HM.out), Lib.hid (by rw [HE.out]; exact HO3.out), HB3⟩
      | true =>
        have HE : Hid (ofL k (l.take (i + 1)) = ofL k (l.take i) ++ [v]) := Lib.hid HSN.out
        have HTK : Hid (numV (ofL k (l.take i)) ++ [.int .i64 v] = numV (ofL k (l.take (i + 1)))) := Lib.hid (by rw [HE.out]; simp [numV])
        have HML : Hid (m + 1 = (ofL k (l.take (i + 1))).length) := Lib.hid (by rw [HE.out, List.length_append, ← HM.out]; rfl)
        clear HSN
        obtain ⟨os, hos⟩ : ∃ os, os = numV (ofL k (l.take i)) := ⟨_, rfl⟩
        rw [← hos] at HO1 HTK
        clear hos
        go_wp2_with (first
          | (go_at_call 35; (with_reducible refine (HST.out _).mono ?_); rintro e w3 ⟨rfl, hb⟩; have hs3 : w.heap.size ≤ w3.heap.size := (by have := hb.size; simp at this; omega); have HB3 := Lib.hid (bel1' HB1.out hs hb); have HO3 := Lib.hid (own_pastK HO1.out hb); clear hb HST)
          | (at_builtin; go_must (refine wpList_append_own _ rfl _ _ 22 rfl w.heap.size 3 i0 (.int .i64 0) 1 8 Try.underlying22 hi0 hz0 hz1 hz2 rfl (by decide) (.slice A1 m c1) m os rfl (HO3.out.alloc _) ⟨w3.heap.size, 0, none⟩ 1 1 [.int .i64 v] rfl rfl (news1 w3 _ _) (by simp [Value.oneCell']) (by unfold maxLen; omega) (by omega) (by first | (simp; done) | (simp; omega)) ?_; intro v5 w5 hown5 hgrow5 _; obtain ⟨A5, c5, rfl, _⟩ := own_formC hown5; have HO5 := Lib.hid hown5; have hs5 : w.heap.size ≤ w5.heap.size := (by have := hgrow5.size; simp at this; omega); have HB5 := Lib.hid (own_below (HO3.out.alloc _) (HB3.out.alloc hs3 _) (by first | (simp; done) | (simp; omega)) hgrow5); clear hown5 hgrow5)))
        go_roundg gh
        case measure => omega
        case rel =>
          have ho5 := HO5.out
          rw [HTK.out] at ho5
          exact ⟨i + 1, m + 1, A5, c5, by omega, by go_num, rfl, hs5, HML, Lib.hid ho5, HB5⟩

end Go.Proofs.Ytfgnlohnalgnpaa
