/- The walks of enter and tell. -/
import Derived.Test.YtmmkcfjncpcabaaDoorMb
import Derived.Maps.AppendAt
namespace Go.Proofs.YtmmkcfjncpcabaaDoor
open Go.RowKit

set_option maxRecDepth 100000 in
set_option maxHeartbeats 1000000 in
theorem enter_any (D : Nat) (a : PV) (st st0 : Int) (w : World) (h : PB w D a) (hst : a.state = .int .i64 st0) : Calls Tryd.prog 33 #[.pointer (some ⟨D, 0, none⟩), .int .i64 st] w (MPost D { a.fresh false with state := .int .i64 st } w) := by
  have h7 : PB (w.setCell ⟨D, 7, none⟩ (.int .i64 st)) D { a with state := .int .i64 st } := h.set 7 _ rfl
  have c7 := h.cell 7
  have c0 := h7.cell 0
  have c1 := h7.cell 1
  have c2 := h7.cell 2
  have c3 := h7.cell 3
  have c4 := h7.cell 4
  have c5 := h7.cell 5
  have c6 := h7.cell 6
  simp only [PV.arr, List.getElem?_toArray, List.getElem?_cons_succ, List.getElem?_cons_zero] at c0 c1 c2 c3 c4 c5 c6 c7
  rw [hst] at c7
  have f7 := h.free 7
  have f0 := h7.free 0
  have f1 := h7.free 1
  have f2 := h7.free 2
  have f3 := h7.free 3
  have f4 := h7.free 4
  have f5 := h7.free 5
  have f6 := h7.free 6
  have H := Lib.hid (h7.fresh false)
  have HK := Lib.hid (kept7 (keptD (kept0 w D) 7 (.int .i64 st)) (.int .u8 0) (.slice none 0 0) (.slice none 0 0) (.bool false) (.int .u8 0) (.slice none 0 0) (.bool false))
  clear h h7 hst
  go_enter Tryd.func33, Tryd.ntmps33
  go_wp2
  go_end0
  exact ⟨rfl, H.out, HK.out⟩

theorem Tryd.infoEvent : (Tryd.prog.info? 41).map (fun i => (i.zero, i.size, i.bytes)) = some (some (.agg #[.int .i64 0, .int .i32 0, .int .u8 0, .int .u8 0, .slice none 0 0, .string ⟨#[]⟩, .string ⟨#[]⟩, .bool false]), 8, 80) := by kernel_rfl
/-- An event's eight cells. -/
structure EVal where
  kind : Int
  r : Int
  byte : Int
  pre : Int
  nums : Value
  inter : ByteArray
  text : ByteArray
  cut : Bool
def EVal.cells (e : EVal) : List Value := [.int .i64 e.kind, .int .i32 e.r, .int .u8 e.byte, .int .u8 e.pre, e.nums, .string e.inter, .string e.text, .bool e.cut]
theorem news8 (W : World) (vs : List Value) (t : TypeId) : ∀ (j : Nat) (u : Value), vs[j]? = some u → (W.alloc (.cells vs.toArray t)).cell? ((⟨W.heap.size, 0, none⟩ : Addr).add j) = some u := fun j u hj => by
  have ea : (⟨W.heap.size, 0, none⟩ : Addr).add j = ⟨W.heap.size, j, none⟩ := by
    unfold Addr.add
    split <;> simp_all
  rw [ea, cell_of_row _ _ _ _ _ _ (heap_alloc_new W _)]
  simpa using hj
/-- Nothing but the blocks of S has turned. -/
structure KB (S : Nat → Prop) (w w' : World) : Prop where
  os : w'.os = w.os
  tape : w'.tape = w.tape
  output : w'.output = w.output
  size : w.heap.size ≤ w'.heap.size
  block : ∀ i, i < w.heap.size → ¬ S i → w'.heap[i]? = w.heap[i]?
/-- Nothing but the block D and the row of events has turned; that row stays where it was, or lies behind all that was. -/
def TK (D : Nat) (a : PV) (v' : Value) (w w' : World) : Prop := KB (fun i => i = D ∨ some i = a.evs.ownBlock) w w' ∧ (v'.ownBlock = a.evs.ownBlock ∨ ∃ g, v'.ownBlock = some g ∧ w.heap.size ≤ g)
def TPost (D : Nat) (a : PV) (n : Nat) (cs : List Value) (e : EVal) (w : World) (en : Ending) (w' : World) : Prop :=
  ∃ v', en = .returned (.tuple #[]) ∧ PB w' D { a with evs := v' } ∧ w'.ownsRow (D + 1) 41 8 v' (n + 1) (cs ++ e.cells) ∧ TK D a v' w w'
theorem tell_end {D n : Nat} {a : PV} {cs : List Value} {e : EVal} {w w5 : World} {v2 : Value} {o o' : Obj} (h : PB w D a) (hown : w.ownsRow (D + 1) 41 8 a.evs n cs) (h2 : w5.ownsRow (D + 1) 41 8 v2 (n + 1) (cs ++ e.cells)) (hg : ((w.alloc o).alloc o').grownBy w5 a.evs.ownBlock) (hat : v2.ownBlock = a.evs.ownBlock ∨ ∃ g, v2.ownBlock = some g ∧ w.heap.size ≤ g) :
    w5.cell? ⟨D, 14, none⟩ = some a.evs ∧ w5.frozen? ⟨D, 14, none⟩ = false ∧ TPost D a n cs e w (.returned (.tuple #[])) (w5.setCell ⟨D, 14, none⟩ v2) := by
  have hlt := lt_of_block h
  have hz : ((w.alloc o).alloc o').heap.size = w.heap.size + 2 := by simp
  have hne : some D ≠ a.evs.ownBlock := fun e => by have := (hown.lt D e.symm).1; omega
  have h5 : PB w5 D a := (hg.block D (by omega) hne).trans (alloc_block (alloc_block h))
  have hc := h5.cell 14
  refine ⟨hc, h5.free 14, v2, rfl, h5.set 14 v2 rfl, h2.kept (⟨rfl, rfl, rfl, by simp, fun k _ hne => heap_setCell_other w5 ⟨D, 14, none⟩ k v2 (fun e => hne (by rw [e]))⟩) (.inr (fun e => by have := (h2.lt D e).1; omega)), ⟨hg.os, hg.tape, hg.output, ?_, fun i hi hS => ?_⟩, hat⟩
  · rw [World.size_setCell]
    have := hg.size
    omega
  · rw [heap_setCell_other w5 ⟨D, 14, none⟩ i v2 (fun e => hS (.inl e)), hg.block i (by omega) (fun e => hS (.inr e))]
    exact (((Below.refl w.heap.size w).alloc (Nat.le_refl _) o).alloc (by simp) o').block i hi

theorem step_append_own_at {P : Program} {ops : Array Oper} {o : Oper} {a : Act} {w : World} {K : Act → World → Prop} {Q : Exit → Act → World → Prop} {E : Prop}
    (hg : o.guard = none) (s x : Operand) (t : TypeId) (hop : o.op = Op.call { callee := Callee.builtin Builtin.append, args := #[s, x], argTypes := #[t, t] })
    (base : Nat) (e : TypeId) (i : TypeInfo) (z : Value) (size bytes : Nat) (h1 : P.underlying t = some (.slice e)) (h2 : P.info? e = some i) (h3 : i.zero = some z) (h4 : i.size = size) (h5 : i.bytes = bytes) (h6 : z.cells.size = size) (h7 : 0 < size)
    (v : Value) (k : Nat) (xs : List Value) (hs : a.eval s = v) (hown : w.ownsRow base e size v k xs) (ad : Addr) (m c : Nat) (news : List Value) (hx : a.eval x = .slice (some ad) m c) (hn : news.length = m * size)
    (hc : ∀ j u, news[j]? = some u → w.cell? (ad.add j) = some u) (h1c : ∀ u ∈ news, u.oneCell' = true) (b1 : k + m ≤ maxLen) (b2 : (k + m) * bytes ≤ 140737488355328) (b3 : base ≤ w.heap.size)
    (hK : ∀ v' w', w'.ownsRow base e size v' (k + m) (xs ++ news) → w.grownBy w' v.ownBlock → (v'.ownBlock = v.ownBlock ∨ v'.ownBlock = some w.heap.size) → K (a.put o.dst v') w') :
    if Region.wanted o (yielded ops a.tmps) = true then Oper.wp P o a w K Q else E := by
  have hw : Region.wanted o (yielded ops a.tmps) = true := by simp [Region.wanted, hg]
  rw [if_pos hw]
  obtain ⟨v', w', hr, g2, g3, _, g5⟩ := run_append_own_at (P := P) w base t o.type e i z size bytes h1 h2 h3 h4 h5 h6 h7 v k xs hown ad m c news hn hc h1c b1 b2 b3
  unfold Oper.wp execOp
  simp only [hop, resolve, invoke, builtin, Sem.run_bind, Sem.run_pure, Result.andThen_ok, List.map_toArray, List.map_cons, List.map_nil, hs, hx, hr]
  exact hK v' w' g2 g3 g5
theorem hat_two {v v' : Value} {w : World} {o o' : Obj} (h : v'.ownBlock = v.ownBlock ∨ v'.ownBlock = some ((w.alloc o).drew.alloc o').heap.size) : v'.ownBlock = v.ownBlock ∨ ∃ g, v'.ownBlock = some g ∧ w.heap.size ≤ g :=
  h.imp id fun e => ⟨_, e, by simp; omega⟩
theorem one_cells (e : EVal) (h : e.nums.oneCell' = true) : ∀ u ∈ e.cells, u.oneCell' = true := fun u hu => by
  simp only [EVal.cells, List.mem_cons, List.not_mem_nil, or_false] at hu
  rcases hu with rfl | rfl | rfl | rfl | rfl | rfl | rfl | rfl
  all_goals first | exact h | rfl
theorem grown_drew2 {w w' : World} {o o' : Obj} {r : Option Nat} (h : ((w.alloc o).drew.alloc o').grownBy w' r) : ((w.alloc o).alloc o').grownBy w' r := ⟨h.os, h.tape, h.output, h.size, h.block⟩
set_option maxRecDepth 100000 in
set_option maxHeartbeats 4000000 in
theorem tell_any (D : Nat) (a : PV) (n : Nat) (cs : List Value) (e : EVal) (w : World) (h : PB w D a) (hown : w.ownsRow (D + 1) 41 8 a.evs n cs) (hn : n ≤ 100000) (hnum : e.nums.oneCell' = true) :
    Calls Tryd.prog 43 #[.pointer (some ⟨D, 0, none⟩), .agg #[.int .i64 e.kind, .int .i32 e.r, .int .u8 e.byte, .int .u8 e.pre, e.nums, .string e.inter, .string e.text, .bool e.cut]] w (TPost D a n cs e w) := by
  obtain ⟨i0, hi0, hz0, hz1, hz2⟩ := info_parts Tryd.infoEvent
  have HEND : Hid (∀ w5 v2, ((w.alloc (.cells #[.int .i64 e.kind, .int .i32 e.r, .int .u8 e.byte, .int .u8 e.pre, e.nums, .string e.inter, .string e.text, .bool e.cut] 41)).alloc (.cells e.cells.toArray 41)).grownBy w5 a.evs.ownBlock → w5.ownsRow (D + 1) 41 8 v2 (n + 1) (cs ++ e.cells) → (v2.ownBlock = a.evs.ownBlock ∨ ∃ g, v2.ownBlock = some g ∧ w.heap.size ≤ g) → w5.cell? ⟨D, 14, none⟩ = some a.evs ∧ w5.frozen? ⟨D, 14, none⟩ = false ∧ TPost D a n cs e w (.returned (.tuple #[])) (w5.setCell ⟨D, 14, none⟩ v2)) := Lib.hid fun w5 v2 hg h2 hat => tell_end h hown h2 hg hat
  have HOWN : Hid (((w.alloc (.cells #[.int .i64 e.kind, .int .i32 e.r, .int .u8 e.byte, .int .u8 e.pre, e.nums, .string e.inter, .string e.text, .bool e.cut] 41)).alloc (.cells e.cells.toArray 41)).ownsRow (D + 1) 41 8 a.evs n cs) := Lib.hid ((hown.alloc _).alloc _)
  have hlt := lt_of_block h
  have c14 : w.cell? ⟨D, 14, none⟩ = some a.evs := h.cell 14
  have f14 := h.free 14
  have HNW : Hid (∀ (j : Nat) (u : Value), e.cells[j]? = some u → ((w.alloc (.cells #[.int .i64 e.kind, .int .i32 e.r, .int .u8 e.byte, .int .u8 e.pre, e.nums, .string e.inter, .string e.text, .bool e.cut] 41)).drew.alloc (.cells e.cells.toArray 41)).cell? ((⟨w.heap.size + 1, 0, none⟩ : Addr).add j) = some u) := Lib.hid (by
    have h := news8 (w.alloc (.cells #[.int .i64 e.kind, .int .i32 e.r, .int .u8 e.byte, .int .u8 e.pre, e.nums, .string e.inter, .string e.text, .bool e.cut] 41)).drew e.cells 41
    rw [show (w.alloc (.cells #[.int .i64 e.kind, .int .i32 e.r, .int .u8 e.byte, .int .u8 e.pre, e.nums, .string e.inter, .string e.text, .bool e.cut] 41)).drew.heap.size = w.heap.size + 1 by simp] at h
    exact h)
  have HONE : Hid (∀ u ∈ e.cells, u.oneCell' = true) := Lib.hid (one_cells e hnum)
  clear h hown hnum
  go_enter Tryd.func43, Tryd.ntmps43
  go_wp2_with fail
  go_region_law (first
    | ((refine step_append_own_at rfl _ _ 29 rfl (D + 1) 41 i0 (.agg #[.int .i64 0, .int .i32 0, .int .u8 0, .int .u8 0, .slice none 0 0, .string ⟨#[]⟩, .string ⟨#[]⟩, .bool false]) 8 80 Tryd.underlying29 hi0 hz0 hz1 hz2 rfl (by decide) a.evs n cs rfl HOWN.out ⟨w.heap.size + 1, 0, none⟩ 1 1 e.cells rfl rfl HNW.out HONE.out (by unfold maxLen; omega) (by omega) (by simp; omega) ?_); intro v2 w5 hown2 hgrow2 hat2; obtain ⟨A5, c5, rfl, _⟩ := own_form hown2; obtain ⟨hc5, hf5, hp5⟩ := HEND.out w5 _ (grown_drew2 hgrow2) hown2 (hat_two hat2); have HP5 := Lib.hid hp5; clear hown2 hgrow2 hp5 hat2))
  all_goals
    go_end0
    exact HP5.out

end Go.Proofs.YtmmkcfjncpcabaaDoor
