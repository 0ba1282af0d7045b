/- The walk of jump.Block. -/
import Derived.Lib.EndianMore
import Derived.Deep.Upon
import Derived.Test.YtfgnlohnalgnpaaG2
namespace Go.Proofs.Ytfgnlohnalgnpaa
open Go.RowKit Go.Shelf
attribute [local go_sem] Oper.semAt_some

theorem keeps_below {W W' : World} (hb : Below W.heap.size W W') : KeepsOthers W W' := ⟨hb.size, fun k _ hk _ => (hb.block k (Array.getElem?_eq_some_iff.1 hk).1).trans hk⟩
/-- A struct stored into the box that was made last, inside a fence. -/
theorem wpListIn_store_box {F : Fence} {nF : Nat} {P : Program} {ops : Array Oper} {rest : List Oper} {op : Oper} {a : Act} {w : World} {Q : Exit → Act → World → Prop} (hgd : op.guard = none) (t : TypeId) (x y : Operand) (ho : op.op = .store t x y)
    (c c' : Array Value) (hx : a.eval x = .pointer (some ⟨w.heap.size, 0, none⟩)) (hy : a.eval y = .agg c') (hi : (P.info? t).map (·.size) = some c'.size) (hs : c.size = c'.size) (h1 : c'.all (·.oneCell') = true)
    (h : wpListIn F nF P ops Q rest (a.put op.dst undef) (w.alloc (.cells c' t))) : wpListIn F nF P ops Q (op :: rest) a (w.alloc (.cells c t)) :=
  wpListIn_plain hgd fun K hK => by
    have hsem : Oper.semAt F.round a.eval op = execOp a.eval op := by unfold Oper.semAt; rw [ho]; cases F.round <;> rfl
    have hr := run_storeAt_new (P := P) w t c c' hi hs h1
    refine ⟨fun f hf => ?_, ?_⟩
    · unfold Oper.about at hf; rw [ho] at hf; cases hf
    · rw [hsem]
      unfold execOp
      simp only [ho, hx, hy, hr, Sem.run_bind, Sem.run_pure, Result.andThen_ok]
      exact hK _ _ h
/-- A struct stored into a block that lies there, inside a fence. -/
theorem wpListIn_store_mid {F : Fence} {nF : Nat} {P : Program} {ops : Array Oper} {rest : List Oper} {op : Oper} {a : Act} {w : World} {Q : Exit → Act → World → Prop} (hgd : op.guard = none) (ty : TypeId) (x y : Operand) (ho : op.op = .store ty x y)
    (b o : Nat) (cells : Array Value) (hx : a.eval x = .pointer (some ⟨b, o, none⟩)) (hy : a.eval y = .agg cells)
    (ht : w.there b o cells.size) (hi : (P.info? ty).map (·.size) = some cells.size) (h1 : cells.all (·.oneCell') = true)
    (h : wpListIn F nF P ops Q rest (a.put op.dst undef) (w.setCells b o cells.toList)) : wpListIn F nF P ops Q (op :: rest) a w :=
  wpListIn_plain hgd fun K hK => by
    have hsem : Oper.semAt F.round a.eval op = execOp a.eval op := by unfold Oper.semAt; rw [ho]; cases F.round <;> rfl
    refine ⟨fun f hf => ?_, ?_⟩
    · unfold Oper.about at hf; rw [ho] at hf; cases hf
    · rw [hsem]
      unfold execOp
      simp only [ho, hx, hy, Instr.storeAt, Instr.sureAddr, Sem.run_bind, Sem.run_pure, Result.andThen_ok, run_storeVar_mid w b o ty cells ht hi h1]
      exact hK _ _ h
/-- Two results that lie in cells. -/
theorem results_cell2 {fn : Func} {a b : Tmp} {t u : TypeId} (h : fn.results = #[.cell a t, .cell b u]) (tmps : Array Value) (P : Program) (w : World) {pa pb : Addr} {va vb : Value}
    (ha : tmps[a]?.getD undef = .pointer (some pa)) (hb : tmps[b]?.getD undef = .pointer (some pb)) (la : (loadVar t pa).run P w = .ok va w) (lb : (loadVar u pb).run P w = .ok vb w) :
    (results fn tmps).run P w = .ok (.tuple #[va, vb]) w := by
  simp [results, h, ha, hb, asAddr, la, lb, Sem.run_bind, Result.andThen]
theorem range_own {B b : Nat} {X Y : World} {row : Option Nat} {cs : List Value} (hb : b < B) (h : X.rangeAt b 0 cs) (hg : X.grownBy Y row) (hr : ∀ r, row = some r → B ≤ r ∧ ∃ o : Obj, X.heap[r]? = some o ∧ o.isCells = false) : Y.rangeAt b 0 cs := fun j v hv =>
  (World.cell?_of_block (hg.block b (World.block_lt_of_cell? X _ (h j v hv)) (fun e => by have := (hr b e.symm).1; omega))).trans (h j v hv)
theorem cells_own {B p : Nat} {X Y : World} {row : Option Nat} {cs : Array Value} {t : TypeId} (h : X.heap[p]? = some (.cells cs t)) (hg : X.grownBy Y row) (hr : ∀ r, row = some r → B ≤ r ∧ ∃ o : Obj, X.heap[r]? = some o ∧ o.isCells = false) : Y.heap[p]? = some (.cells cs t) :=
  (hg.block p (Array.getElem?_eq_some_iff.1 h).1 (fun e => by obtain ⟨_, o, ho, hc⟩ := hr p e.symm; rw [h] at ho; cases ho; cases hc)).trans h
theorem range_of_cells {w : World} {p : Nat} {x : Bk} {t : TypeId} (h : w.heap[p]? = some (.cells (boxB x) t)) : w.rangeAt p 0 (encB x) := fun j v hj => by
  rw [Nat.zero_add, cell_of_row _ p j _ _ _ h, ← hj]
  simp [boxB, encB]
theorem there_of_cells {w : World} {p n : Nat} {cs : Array Value} {t : TypeId} (h : w.heap[p]? = some (.cells cs t)) (hn : n ≤ cs.size) : w.there p 0 n := fun j hj => by
  rw [Nat.zero_add, cell_of_row _ p j _ _ _ h, frozen_of_row _ p j _ _ h]
  exact ⟨by rw [Array.getElem?_eq_getElem (by omega)]; rfl, rfl⟩
theorem four_boxes (w : World) (o0 o1 o2 o3 : Obj) : ((((w.alloc o0).alloc o1).alloc o2).alloc o3).heap[w.heap.size]? = some o0 ∧ ((((w.alloc o0).alloc o1).alloc o2).alloc o3).heap[w.heap.size + 1]? = some o1 ∧ ((((w.alloc o0).alloc o1).alloc o2).alloc o3).heap[w.heap.size + 1 + 1]? = some o2 ∧
    ((((w.alloc o0).alloc o1).alloc o2).alloc o3).heap[w.heap.size + 1 + 1 + 1]? = some o3 ∧ ((((w.alloc o0).alloc o1).alloc o2).alloc o3).heap.size = w.heap.size + 4 ∧ Below w.heap.size w ((((w.alloc o0).alloc o1).alloc o2).alloc o3) := by
  have n0 := World.alloc_heap_new w o0
  have n1 := World.alloc_heap_new (w.alloc o0) o1
  have n2 := World.alloc_heap_new ((w.alloc o0).alloc o1) o2
  have n3 := World.alloc_heap_new (((w.alloc o0).alloc o1).alloc o2) o3
  simp only [World.size_alloc] at n1 n2 n3
  refine ⟨?_, ?_, ?_, n3, by simp, belA (belA (belA (belA (Below.refl _ _) _) _) _) _⟩
  · exact (Below.heap_alloc _ _ _ (by simp only [World.size_alloc]; omega)).trans ((Below.heap_alloc _ _ _ (by simp only [World.size_alloc]; omega)).trans ((Below.heap_alloc _ _ _ (by simp)).trans n0))
  · exact (Below.heap_alloc _ _ _ (by simp only [World.size_alloc]; omega)).trans ((Below.heap_alloc _ _ _ (by simp only [World.size_alloc]; omega)).trans n1)
  · exact (Below.heap_alloc _ _ _ (by simp)).trans n2
theorem blk_end {B s D : Nat} {W : World} {b : Bk} {f : Bool} {tmps : Array Value} {o' : Obj} (h4 : tmps[4]?.getD undef = .pointer (some ⟨s + 1, 0, none⟩)) (h5 : tmps[5]?.getD undef = .pointer (some ⟨s + 1 + 1, 0, none⟩)) (r1 : W.rangeAt (s + 1) 0 (encB b)) (r2 : W.rangeAt (s + 1 + 1) 0 [.bool f])
    (hK : W.heap[D]? = some (.deferred (some []))) (hD : B ≤ D) (hs : s + 1 + 1 < B) : (results Try.f21 tmps).run Try.prog (W.putObj D o') = .ok (.tuple #[.agg (boxB b), .bool f]) (W.putObj D o') := by
  have hg := grownBy_putObj' W D o'
  have hr : ∀ r, some D = some r → B ≤ r ∧ ∃ o : Obj, W.heap[r]? = some o ∧ o.isCells = false := fun r e => by cases e; exact ⟨hD, _, hK, rfl⟩
  have q1 := range_own (B := B) (by omega) r1 hg hr
  have q2 := range_own (B := B) (by omega) r2 hg hr
  have l1 := run_loadVar_mid (P := Try.prog) _ _ _ 39 _ _ q1 Try.underlying39 rfl (by rw [infoBk]; rfl)
  have l2 : (loadVar 4 ⟨s + 1 + 1, 0, none⟩).run Try.prog (W.putObj D o') = .ok (.bool f) (W.putObj D o') := by
    have := q2 0 _ rfl
    unfold loadVar
    go_simp
  exact results_cell2 rfl _ _ _ h4 h5 l1 l2
def notAhead (r c : Int) (b : Bk) : Bool := !lessB r c b.s0 b.s1
def BlkPost (p : Bk → Bool) (L : List Bk) (w : World) (e : Ending) (w' : World) : Prop := e = .returned (.tuple #[.agg (boxB (lastV p L).1), .bool (lastV p L).2]) ∧ Below w.heap.size w w'

set_option maxRecDepth 100000 in
set_option maxHeartbeats 4000000 in
theorem block_in (m : Nat) (hm : 3 ≤ m) (r c : Int) (A : Option Addr) (L : List Bk) (n cp : Nat) (hn : n = L.length) (hlen : n ≤ 1000) (w : World) (hR : RK encB 17 w A L) :
    CallsIn Fence.wide m Try.prog 21 #[.slice A n cp, .agg #[.int .i64 r, .int .i64 c]] w (BlkPost (notAhead r c) L w) := by
  have h1 : 1 ≤ m := by omega
  have HPN : Hid (∀ x : Bk, lessB r c x.s0 x.s1 = !notAhead r c x) := Lib.hid (fun x => by simp [notAhead])
  refine callsIn_of_wp_marks Try.func21 rfl trivial ?_ rfl
  simp only [Try.ntmps21, List.size_toArray, List.length_cons, List.length_nil, Nat.reduceAdd, Nat.reduceSub, Array.replicate_succ, Array.replicate_zero, List.push_toArray, List.append_toArray, List.nil_append, List.cons_append]
  have HN := Lib.hid hn
  clear hn
  gi_wp2_with (refine ⟨trivial, ?_⟩; gi_at_call 36; refine (back_in (m - 1) _ _ _ _).mono ?_; rintro e w' ⟨rfl, rfl⟩)
  have F := four_boxes w (.cells #[.int .i64 r, .int .i64 c] 37) (.cells #[.int .u64 0, .int .i64 0, .int .i64 0, .int .i64 0, .int .i64 0, .int .i64 0, .int .i64 0, .int .i64 0, .int .i64 0, .int .i64 0, .int .i64 0, .int .i64 0, .int .i64 0, .bool false, .bool false, .string ⟨#[]⟩, .string ⟨#[]⟩] 39) (.cells #[.bool false] 4) (.cells #[.slice A n cp] 35)
  generalize ((((w.alloc (.cells #[.int .i64 r, .int .i64 c] 37)).alloc (.cells #[.int .u64 0, .int .i64 0, .int .i64 0, .int .i64 0, .int .i64 0, .int .i64 0, .int .i64 0, .int .i64 0, .int .i64 0, .int .i64 0, .int .i64 0, .int .i64 0, .int .i64 0, .bool false, .bool false, .string ⟨#[]⟩, .string ⟨#[]⟩] 39)).alloc (.cells #[.bool false] 4)).alloc (.cells #[.slice A n cp] 35)) = W0 at F ⊢
  obtain ⟨k0, k1, k2, k3, hsz, hB0⟩ := F
  have hR0 := hR.past hB0
  have hs0 : w.heap.size ≤ W0.heap.size := by omega
  refine wpIn_rangeFunc_ownH rfl h1 (gf := 42) (lb := #[.pointer (some ⟨w.heap.size + 1 + 1 + 1, 0, none⟩)]) rfl trivial (enters_of Try.func42 (by kernel_rfl) rfl)
    (back_stops (m - 1) (by omega) (w.heap.size + 1 + 1 + 1) A L n cp HN.out hlen W0 (by omega) hR0 (cell_of_row _ _ 0 _ _ _ k3)) belowK_t (belowK_b (Nat.le_refl _)) (Below.refl _ _) (fun _ => rfl)
    (fun pre W => (∀ j ∈ pre, notAhead r c (Bt L j) = false) ∧ Below W0.heap.size W0 W)
    (fun cc pre W => cc = .ret ∧ (∃ q x, pre = q ++ [x] ∧ (∀ j ∈ q, notAhead r c (Bt L j) = false) ∧ notAhead r c (Bt L x) = true ∧ W.rangeAt (w.heap.size + 1) 0 (encB (Bt L x)) ∧ W.rangeAt (w.heap.size + 1 + 1) 0 [.bool true]) ∧ Below w.heap.size w W)
    (OwnFrom.and (ownFrom_pure _ _) (ownFrom_below (Nat.le_refl _) (Nat.le_refl _))) ?hIx ⟨fun j hj => (by cases hj), Below.refl _ _⟩
    (fun x a' W => ∃ p, a' = { tmps := #[.slice A n cp, .agg #[.int .i64 r, .int .i64 c], undef, .pointer (some ⟨w.heap.size, 0, none⟩), .pointer (some ⟨w.heap.size + 1, 0, none⟩), .pointer (some ⟨w.heap.size + 1 + 1, 0, none⟩), undef, .pointer (some ⟨p, 0, none⟩), .slice A n cp, .func (.func 42) #[] #[.pointer (some ⟨w.heap.size + 1 + 1 + 1, 0, none⟩)], .int .i64 (x : Int), .agg (boxB (Bt L x)), undef, undef, undef, undef, undef, undef, undef], defers := [] } ∧ W.heap[p]? = some (.cells (boxB (Bt L x)) 39))
    ?hAx ?assign ?body ?done ?stop
  case hIx =>
    intro cc
    rintro s X Y row ⟨rfl, ⟨q, x, e, hq, hx, r1, r2⟩, hB⟩ hg hr
    exact ⟨rfl, ⟨q, x, e, hq, hx, range_own (by omega) r1 hg hr, range_own (by omega) r2 hg hr⟩, (ownFrom_below (β := Unit) (Nat.le_refl _) hs0) () X Y row hB hg hr⟩
  case hAx =>
    rintro x a' s X Y row ⟨p, e, h⟩ hg hr
    exact ⟨p, e, cells_own h hg hr⟩
  case assign =>
    intro l pre x W K hI hK
    have HBX : Hid ((boxB (Bt L x)).size = 17) := Lib.hid rfl
    have HB1 : Hid ((boxB (Bt L x)).all (·.oneCell') = true) := Lib.hid (by simp [boxB, Value.oneCell'])
    generalize boxB (Bt L x) = bx at *
    refine wpIn_region_lit ?_
    refine wpListIn_plain rfl (fun K2 hK2 => ?_)
    go_simp
    refine hK2 _ _ ?_
    clear hK2 K2
    refine wpListIn_store_box rfl 39 (.tmp 7) (.tmp 11) rfl _ bx rfl rfl (by rw [infoBk, HBX.out]) (by rw [HBX.out]; rfl) HB1.out ?_
    refine wpListIn_nil ?_
    show K _ _
    exact hK _ _ ((keeps_below (belA (Below.refl _ _) _)).from _) ((belA (Below.refl _ W) _).mono hI.2.size) ⟨hI.1, hI.2.trans ((belA (Below.refl _ W) _).mono hI.2.size)⟩ ⟨W.heap.size, rfl, World.alloc_heap_new _ _⟩
  case body =>
    intro l pre x a' W hlB hrec hI hAx hlt
    obtain ⟨hp, hB⟩ := hI
    obtain ⟨p, rfl, hbx⟩ := hAx
    have c0 : W.cell? ⟨w.heap.size, 0, none⟩ = some (.int .i64 r) := (hB.cell (p := ⟨w.heap.size, 0, none⟩) (by show w.heap.size < _; omega)).trans (cell_of_row _ _ 0 _ _ _ k0)
    have c1 : W.cell? ⟨w.heap.size, 1, none⟩ = some (.int .i64 c) := (hB.cell (p := ⟨w.heap.size, 1, none⟩) (by show w.heap.size < _; omega)).trans (cell_of_row _ _ 1 _ _ _ k0)
    have z2 : W.cell? ⟨p, 2, none⟩ = some (.int .i64 (Bt L x).s0) := cell_of_row _ _ 2 _ _ _ hbx
    have z3 : W.cell? ⟨p, 3, none⟩ = some (.int .i64 (Bt L x).s1) := cell_of_row _ _ 3 _ _ _ hbx
    have lp := (Array.getElem?_eq_some_iff.1 hbx).1
    have ls : w.heap.size + 4 ≤ W.heap.size := by have := hB.size; omega
    have HRP : Hid (∀ W', Below W.heap.size W W' → W'.rangeAt p 0 (encB (Bt L x))) := Lib.hid fun W' h => range_of_cells ((h.block p lp).trans hbx)
    have HT1 : Hid (∀ W', Below W.heap.size W W' → W'.there (w.heap.size + 1) 0 17) := Lib.hid fun W' h => there_of_cells ((h.block _ (by omega)).trans ((hB.block _ (by omega)).trans k1)) (by simp)
    have HT2 : Hid (∀ W', Below W.heap.size W W' → W'.heap[w.heap.size + 1 + 1]? = some (.cells #[.bool false] 4)) := Lib.hid fun W' h => (h.block _ (by omega)).trans ((hB.block _ (by omega)).trans k2)
    have HQ := Lib.hid (HPN.out (Bt L x))
    have hd : 1 ≤ m - 1 - 1 := by omega
    have HBX : Hid ((boxB (Bt L x)).size = 17) := Lib.hid rfl
    have HB1 : Hid ((boxB (Bt L x)).all (·.oneCell') = true) := Lib.hid (by simp [boxB, Value.oneCell'])
    have HBE : Hid ((encB (Bt L x)).toArray = boxB (Bt L x)) := Lib.hid rfl
    have HBT : Hid ((boxB (Bt L x)).toList = encB (Bt L x)) := Lib.hid rfl
    have HBLN : Hid ((encB (Bt L x)).length = 17) := Lib.hid rfl
    have HQ3 : Hid (W.rangeAt p 0 (encB (Bt L x))) := Lib.hid (HRP.out _ (Below.refl _ _))
    clear hbx k0 k1 k2 k3 hR hR0
    cases hq : notAhead r c (Bt L x) with
    | false =>
      have HL := Lib.hid (fun W => less_as r c (Bt L x).s0 (Bt L x).s1 true (by rw [HQ.out, hq]; rfl) W)
      have HPP : Hid (∀ j ∈ pre ++ [x], notAhead r c (Bt L j) = false) := Lib.hid (fun j hj => by rcases List.mem_append.1 hj with h | h; exact hp j h; rw [List.mem_singleton.1 h]; exact hq)
      clear hq HQ
      generalize (Bt L x).s0 = x0 at *
      generalize (Bt L x).s1 = x1 at *
      generalize boxB (Bt L x) = bx at *
      generalize encB (Bt L x) = eb at *
      gi_wp2_with (refine ⟨trivial, ?_⟩; gi_at_call 37; refine (CallsIn.inRound l (callsIn_wide.2 (HL.out _))).mono ?_; rintro e w1 ⟨rfl, hb1⟩)
      exact ⟨(keeps_below hb1).from _, hb1.mono hB.size, HPP.out, hB.trans (hb1.mono hB.size)⟩
    | true =>
      have HL := Lib.hid (fun W => less_as r c (Bt L x).s0 (Bt L x).s1 false (by rw [HQ.out, hq]; rfl) W)
      have HPX := Lib.hid hq
      have HPP := Lib.hid hp
      have HEB : Hid (∃ e, e = encB (Bt L x)) := Lib.hid ⟨_, rfl⟩
      clear hq HQ hp
      generalize (Bt L x).s0 = x0 at *
      generalize (Bt L x).s1 = x1 at *
      generalize boxB (Bt L x) = bx at *
      obtain ⟨eb, heb⟩ := HEB.out
      have HEB := Lib.hid heb
      rw [← heb] at HRP HBE HBT HBLN HQ3
      clear heb
      gi_upto_region 4 with (refine ⟨trivial, ?_⟩; gi_at_call 37; refine (CallsIn.inRound l (callsIn_wide.2 (HL.out _))).mono ?_; rintro e w1 ⟨rfl, hb1⟩)
      refine wpIn_region_lit ?_
      refine wpListIn_load_mid rfl 39 (.tmp 7) rfl p 0 rfl eb _ (HRP.out _ hb1) Try.underlying39 rfl (by rw [infoBk, HBLN.out]) ?_
      rw [HBE.out]
      refine wpListIn_store_mid rfl 39 (.tmp 4) (.tmp 17) rfl (w.heap.size + 1) 0 bx rfl rfl (by rw [HBX.out]; exact HT1.out _ hb1) (by rw [infoBk, HBX.out]) HB1.out ?_
      rw [HBT.out]
      have hl1 : w.heap.size + 4 ≤ w1.heap.size := Nat.le_trans ls hb1.size
      have hr1 := World.rangeAt_setCells_same w1 (w.heap.size + 1) 0 eb (by rw [HBLN.out]; exact HT1.out _ hb1)
      have hbs : Below w.heap.size w1 (w1.setCells (w.heap.size + 1) 0 eb) := Lib.below_setCells_w (by omega) _ _ _
      have hb2 : Below w.heap.size W (w1.setCells (w.heap.size + 1) 0 eb) := (hb1.mono (by omega)).trans hbs
      have hk2 : KeepsFrom W0.heap.size W (w1.setCells (w.heap.size + 1) 0 eb) := ⟨hb2.size, fun k o hk h0 _ => by
        have hkl := (Array.getElem?_eq_some_iff.1 h0).1
        exact (World.heap_setCells_other w1 _ _ _ (Nat.lt_of_lt_of_le hkl hb1.size) (by omega)).trans ((hb1.block k hkl).trans h0)⟩
      have h2c : (w1.setCells (w.heap.size + 1) 0 eb).heap[w.heap.size + 1 + 1]? = some (.cells #[.bool false] 4) := (World.heap_setCells_other w1 _ _ _ (by omega) (by omega)).trans (HT2.out _ hb1)
      have d2 : (w1.setCells (w.heap.size + 1) 0 eb).cell? ⟨w.heap.size + 1 + 1, 0, none⟩ = some (.bool false) := cell_of_row _ _ 0 _ _ _ h2c
      have f2 := frozen_of_row _ _ 0 _ _ h2c
      clear hbs h2c hb1 z2 z3 c0 c1 HRP HT1 HT2 HQ3
      generalize (w1.setCells (w.heap.size + 1) 0 eb) = w2 at *
      gi_wp2
      refine ⟨hk2.trans ((KeepsOthers.setCell _ _ _).from _), rfl, ⟨pre, x, rfl, HPP.out, HPX.out, ?_, ?_⟩, ?_⟩
      · rw [← HEB.out]
        exact fun j v hv => (World.cell?_setCell_other _ _ _ _ (by intro e; injection e with e; omega)).trans (hr1 j v hv)
      · intro j v hv
        match j, hv with
        | 0, hv => cases hv; exact World.cell?_setCell_same _ _ _ d2
      · exact (hB0.trans (hB.mono hs0)).trans (hb2.setCell (p := ⟨w.heap.size + 1 + 1, 0, none⟩) (by show w.heap.size ≤ w.heap.size + 1 + 1; omega) _)
  case done =>
    rintro D ys W hD hS ⟨hp, hB⟩ hK
    have HLV := Lib.hid (lastV_none (notAhead r c) L ys (by rw [hS]; unfold downN; rw [HN.out]) hp)
    have ls : w.heap.size + 4 ≤ W.heap.size := by have := hB.size; omega
    have hk1 : W.there (w.heap.size + 1) 0 17 := there_of_cells ((hB.block _ (by omega)).trans k1) (by simp)
    have hk2 : W.heap[w.heap.size + 1 + 1]? = some (.cells #[.bool false] 4) := (hB.block _ (by omega)).trans k2
    clear hS hp k0 k1 k2 k3 hR hR0
    gi_upto_region 5 with fail
    refine wpIn_region_lit ?_
    refine wpListIn_plain rfl (fun K2 hK2 => ?_)
    go_simp
    refine hK2 _ _ ?_
    clear hK2 K2
    refine wpListIn_store_mid rfl 39 (.tmp 4) (.tmp 18) rfl (w.heap.size + 1) 0 (boxB zB) rfl rfl hk1 (by rw [infoBk]; rfl) (by simp [boxB, Value.oneCell']) ?_
    rw [show (boxB zB).toList = encB zB from rfl]
    have hr1 := World.rangeAt_setCells_same W (w.heap.size + 1) 0 (encB zB) hk1
    have hb2 : Below w.heap.size W (W.setCells (w.heap.size + 1) 0 (encB zB)) := Lib.below_setCells_w (by omega) _ _ _
    have h2c : (W.setCells (w.heap.size + 1) 0 (encB zB)).heap[w.heap.size + 1 + 1]? = some (.cells #[.bool false] 4) := (World.heap_setCells_other W _ _ _ (by omega) (by omega)).trans hk2
    have hK2 : (W.setCells (w.heap.size + 1) 0 (encB zB)).heap[D]? = some (.deferred (some [])) := (World.heap_setCells_other W _ _ _ (Array.getElem?_eq_some_iff.1 hK).1 (by omega)).trans hK
    have d2 : (W.setCells (w.heap.size + 1) 0 (encB zB)).cell? ⟨w.heap.size + 1 + 1, 0, none⟩ = some (.bool false) := cell_of_row _ _ 0 _ _ _ h2c
    have f2 := frozen_of_row _ _ 0 _ _ h2c
    clear hk1 hk2 hK
    generalize (W.setCells (w.heap.size + 1) 0 (encB zB)) = w2 at *
    gi_wp2
    have hK3 : (w2.setCell ⟨w.heap.size + 1 + 1, 0, none⟩ (.bool false)).heap[D]? = some (.deferred (some [])) := ((grownBy_setCell' w2 (w.heap.size + 1 + 1) _).block D (Array.getElem?_eq_some_iff.1 hK2).1 (fun e => by injection e; omega)).trans hK2
    have hr3 : (w2.setCell ⟨w.heap.size + 1 + 1, 0, none⟩ (.bool false)).rangeAt (w.heap.size + 1) 0 (encB zB) := fun j v hv => (World.cell?_setCell_other _ _ _ _ (by intro e; injection e with e; omega)).trans (hr1 j v hv)
    have hr4 : (w2.setCell ⟨w.heap.size + 1 + 1, 0, none⟩ (.bool false)).rangeAt (w.heap.size + 1 + 1) 0 [.bool false] := fun j v hv => by
      match j, hv with
      | 0, hv => cases hv; exact World.cell?_setCell_same _ _ _ d2
    have hb3 : Below w.heap.size w (w2.setCell ⟨w.heap.size + 1 + 1, 0, none⟩ (.bool false)) := (hB0.trans (hB.mono hs0)).trans (hb2.setCell (p := ⟨w.heap.size + 1 + 1, 0, none⟩) (by show w.heap.size ≤ w.heap.size + 1 + 1; omega) _)
    generalize (w2.setCell ⟨w.heap.size + 1 + 1, 0, none⟩ (.bool false)) = w3 at *
    refine ⟨by simp, .inl ⟨_, _, rfl, run_takeDeferred hK3, ?_⟩⟩
    refine ⟨_, blk_end (B := W0.heap.size) rfl rfl hr3 hr4 hK3 hD (by omega), ?_⟩
    exact ⟨by rw [HLV.out], hb3.trans (belowK_b (w := w) (Nat.le_refl _) w3 D _ _ (by omega) hK3 rfl rfl)⟩
  case stop =>
    rintro D cc pre W hD hS ⟨rfl, ⟨q, x, e, hq, hx, r1, r2⟩, hB⟩ hK
    have HLV := Lib.hid (lastV_stop (notAhead r c) L q x (by rw [← e, ← HN.out]; exact hS) hq hx)
    clear hS hq e hx
    gi_wp2
    refine ⟨by simp, .inl ⟨_, _, rfl, run_takeDeferred hK, ?_⟩⟩
    refine ⟨_, blk_end (B := W0.heap.size) rfl rfl r1 r2 hK hD (by omega), ?_⟩
    exact ⟨by rw [HLV.out], hB.trans (belowK_b (w := w) (Nat.le_refl _) W D _ _ (by omega) hK rfl rfl)⟩

theorem block_any (r c : Int) (A : Option Addr) (L : List Bk) (n cp : Nat) (hn : n = L.length) (hlen : n ≤ 1000) (w : World) (hR : RK encB 17 w A L) :
    Calls Try.prog 21 #[.slice A n cp, .agg #[.int .i64 r, .int .i64 c]] w (BlkPost (notAhead r c) L w) :=
  (callsIn_wide (n := 3)).1 (block_in 3 (by omega) r c A L n cp hn hlen w hR)

end Go.Proofs.Ytfgnlohnalgnpaa
