/- A Parser's block; the walks of spoil and enter. -/
import Derived.Test.YtmmkcfjncpcabaaDoorMa
namespace Go.Proofs.YtmmkcfjncpcabaaDoor
open Go.RowKit

/-- What a Parser's fifteen cells hold. -/
structure PV where
  pre : Value
  head : Value
  inter : Value
  wrong : Value
  last : Value
  pay : Value
  cut : Value
  state : Value
  most : Value
  w0 : Value
  w1 : Value
  w2 : Value
  w3 : Value
  left : Value
  evs : Value
def PV.arr (a : PV) : Array Value := #[a.pre, a.head, a.inter, a.wrong, a.last, a.pay, a.cut, a.state, a.most, a.w0, a.w1, a.w2, a.w3, a.left, a.evs]
/-- A Parser's block lies at D. -/
def PB (W : World) (D : Nat) (a : PV) : Prop := W.heap[D]? = some (.cells a.arr 58 (0, 0))
theorem PB.cell {W : World} {D : Nat} {a : PV} (h : PB W D a) (k : Nat) : W.cell? ⟨D, k, none⟩ = a.arr[k]? := cell_of_row W D k _ _ _ h
theorem PB.free {W : World} {D : Nat} {a : PV} (h : PB W D a) (k : Nat) : W.frozen? ⟨D, k, none⟩ = false := by
  unfold PB at h
  simp [World.frozen?, h]
theorem PB.set {W : World} {D : Nat} {a b : PV} (h : PB W D a) (k : Nat) (v : Value) (hb : b.arr = a.arr.setIfInBounds k v) : PB (W.setCell ⟨D, k, none⟩ v) D b := by
  unfold PB at h ⊢
  have hlt := lt_of_block h
  have h' : W.heap[D] = .cells a.arr 58 (0, 0) := by simpa [Array.getElem?_eq_getElem hlt] using h
  show (W.heap.modify D _)[D]? = _
  rw [Array.getElem?_eq_getElem (by simpa using hlt), Array.getElem_modify_self, h', hb]
  rfl
/-- Nothing but the block D has turned. -/
theorem keptD {w W : World} {D : Nat} (h : w.grownBy W (some D)) (k : Nat) (v : Value) : w.grownBy (W.setCell ⟨D, k, none⟩ v) (some D) :=
  ⟨h.os, h.tape, h.output, by rw [World.size_setCell]; exact h.size, fun i hi hne => (heap_setCell_other W ⟨D, k, none⟩ i v (fun e => hne (by rw [e]))).trans (h.block i hi hne)⟩
def PV.fresh (a : PV) (wrong : Bool) : PV := { a with pre := .int .u8 0, head := .slice none 0 0, inter := .slice none 0 0, wrong := .bool wrong, last := .int .u8 0, pay := .slice none 0 0, cut := .bool false }
theorem PB.fresh {W : World} {D : Nat} {a : PV} (h : PB W D a) (b : Bool) :
    PB (((((((W.setCell ⟨D, 0, none⟩ (.int .u8 0)).setCell ⟨D, 1, none⟩ (.slice none 0 0)).setCell ⟨D, 2, none⟩ (.slice none 0 0)).setCell ⟨D, 3, none⟩ (.bool b)).setCell ⟨D, 4, none⟩ (.int .u8 0)).setCell ⟨D, 5, none⟩ (.slice none 0 0)).setCell ⟨D, 6, none⟩ (.bool false)) D (a.fresh b) :=
  ((((((h.set (b := { a with pre := .int .u8 0 }) 0 _ rfl).set (b := { a with pre := .int .u8 0, head := .slice none 0 0 }) 1 _ rfl).set (b := { a with pre := .int .u8 0, head := .slice none 0 0, inter := .slice none 0 0 }) 2 _ rfl).set (b := { a with pre := .int .u8 0, head := .slice none 0 0, inter := .slice none 0 0, wrong := .bool b }) 3 _ rfl).set (b := { a with pre := .int .u8 0, head := .slice none 0 0, inter := .slice none 0 0, wrong := .bool b, last := .int .u8 0 }) 4 _ rfl).set (b := { a with pre := .int .u8 0, head := .slice none 0 0, inter := .slice none 0 0, wrong := .bool b, last := .int .u8 0, pay := .slice none 0 0 }) 5 _ rfl).set (b := a.fresh b) 6 _ rfl
theorem kept7 {w W : World} {D : Nat} (h : w.grownBy W (some D)) (v0 v1 v2 v3 v4 v5 v6 : Value) : w.grownBy (((((((W.setCell ⟨D, 0, none⟩ v0).setCell ⟨D, 1, none⟩ v1).setCell ⟨D, 2, none⟩ v2).setCell ⟨D, 3, none⟩ v3).setCell ⟨D, 4, none⟩ v4).setCell ⟨D, 5, none⟩ v5).setCell ⟨D, 6, none⟩ v6) (some D) :=
  keptD (keptD (keptD (keptD (keptD (keptD (keptD h 0 _) 1 _) 2 _) 3 _) 4 _) 5 _) 6 _
theorem kept0 (w : World) (D : Nat) : w.grownBy w (some D) := ⟨rfl, rfl, rfl, Nat.le_refl _, fun _ _ _ => rfl⟩
def MPost (D : Nat) (b : PV) (w : World) (e : Ending) (w' : World) : Prop := e = .returned (.tuple #[]) ∧ PB w' D b ∧ w.grownBy w' (some D)

set_option maxRecDepth 100000 in
set_option maxHeartbeats 1000000 in
theorem spoil_any (D : Nat) (a : PV) (w : World) (h : PB w D a) : Calls Tryd.prog 70 #[.pointer (some ⟨D, 0, none⟩)] w (MPost D (a.fresh true) w) := by
  have c0 := h.cell 0
  have c1 := h.cell 1
  have c2 := h.cell 2
  have c3 := h.cell 3
  have c4 := h.cell 4
  have c5 := h.cell 5
  have c6 := h.cell 6
  simp only [PV.arr, List.getElem?_toArray, List.getElem?_cons_succ, List.getElem?_cons_zero] at c0 c1 c2 c3 c4 c5 c6
  have f0 := h.free 0
  have f1 := h.free 1
  have f2 := h.free 2
  have f3 := h.free 3
  have f4 := h.free 4
  have f5 := h.free 5
  have f6 := h.free 6
  have H := Lib.hid h
  clear h
  go_enter Tryd.func70, Tryd.ntmps70
  go_wp2
  go_end0
  exact ⟨rfl, H.out.fresh true, kept7 (kept0 w D) _ _ _ _ _ _ _⟩

end Go.Proofs.YtmmkcfjncpcabaaDoor
