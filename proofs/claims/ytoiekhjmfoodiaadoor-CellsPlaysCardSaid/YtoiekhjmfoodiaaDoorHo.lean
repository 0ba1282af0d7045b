/- The walk of does: an operation, and the document's. -/
import Derived.Test.YtoiekhjmfoodiaaDoorHm
import Derived.Test.YtoiekhjmfoodiaaDoorHn
import Derived.Test.YtoiekhjmfoodiaaDoorHk
import Derived.Test.YtoiekhjmfoodiaaDoorHh
import Derived.Test.YtoiekhjmfoodiaaDoorHg
import Derived.Test.YtoiekhjmfoodiaaDoorYx
import Derived.Deep.RegionHeld3
namespace Go.Proofs.YtoiekhjmfoodiaaDoor
open Go.RowKit

def Both (B : Nat) (L : List CC) (e : Ending) (w' : World) : Prop := ∃ v1 v2, e = .returned (.tuple #[v1, v2]) ∧ OC B w' v1 L ∧ OC B w' v2 L
set_option maxRecDepth 100000 in
set_option maxHeartbeats 4000000 in
theorem does_0 (A : Option Addr) (l : List CC) (n c : Nat) (o : OP) (hk : o.k = 0) (hn : n = l.length) (hl : n ≤ 1000) (hs : ∀ x, x < l.length → (Ac (mendL l) x).m.size ≤ 4611686018427387904) (w : World) (hT : WT w) (h : RC w w.heap.size A l) :
    Calls Tryd.prog 21 #[.slice A n c, .agg #[.int .i64 0, .int .i64 o.x, .int .i64 o.n, .int .i32 o.c.r, .int .i64 o.c.fk, .int .i64 o.c.fn, .int .i64 o.c.bk, .int .i64 o.c.bn, .int .i64 o.c.fl]] w fun e w' => Both w.heap.size (opRow l o) e w' ∧ Below w.heap.size w w' := by
  have hA := fun W (hW : Below w.heap.size w W) => alone_any A l n c o hn hl hs W (hT.below hW) (h.past hW)
  rw [hk] at hA
  have hL : opRow l o = putRow l o.x o.c := by unfold opRow; rw [if_pos hk]
  have HC : Hid (∀ W, Below w.heap.size w W → Calls Tryd.prog 41 #[.slice A n c, .int .i64 o.x, .int .i32 o.c.r, .agg #[.int .i64 o.c.fk, .int .i64 o.c.fn, .int .i64 o.c.bk, .int .i64 o.c.bn, .int .i64 o.c.fl]] W fun e w' => ∃ v, e = .returned v ∧ OC w.heap.size w' v (opRow l o) ∧ Below W.heap.size W w') := Lib.hid fun W hW => by
    rw [hL]
    exact (refPut_any A l n c o.x o.c hn hl W (h.past hW)).mono fun e w' ⟨v, he, ho, hb⟩ => ⟨v, he, ho.lower hW.size, hb⟩
  have HA : Hid (∀ W, Below w.heap.size w W → Calls Tryd.prog 19 #[.slice A n c, .agg #[.int .i64 0, .int .i64 o.x, .int .i64 o.n, .int .i32 o.c.r, .int .i64 o.c.fk, .int .i64 o.c.fn, .int .i64 o.c.bk, .int .i64 o.c.bn, .int .i64 o.c.fl]] W fun e w' => ∃ v, e = .returned v ∧ OC w.heap.size w' v (opRow l o) ∧ Below W.heap.size W w') := Lib.hid fun W hW =>
    (hA W hW).mono fun e w' ⟨v, he, ho, hb⟩ => ⟨v, he, ho.lower hW.size, hb⟩
  have hw1 : Below w.heap.size w ((w.alloc (.cells #[.int .i64 0, .int .i64 o.x, .int .i64 o.n, .int .i32 o.c.r, .int .i64 o.c.fk, .int .i64 o.c.fn, .int .i64 o.c.bk, .int .i64 o.c.bn, .int .i64 o.c.fl] 37)).alloc (.cells #[.int .i64 o.c.bk, .int .i64 o.c.bn] 32)) := belA (belA (Below.refl _ _) _) _
  have hx0 := heap_alloc_new w (.cells #[.int .i64 0, .int .i64 o.x, .int .i64 o.n, .int .i32 o.c.r, .int .i64 o.c.fk, .int .i64 o.c.fn, .int .i64 o.c.bk, .int .i64 o.c.bn, .int .i64 o.c.fl] 37)
  have hx1 := heap_alloc_new (w.alloc (.cells #[.int .i64 0, .int .i64 o.x, .int .i64 o.n, .int .i32 o.c.r, .int .i64 o.c.fk, .int .i64 o.c.fn, .int .i64 o.c.bk, .int .i64 o.c.bn, .int .i64 o.c.fl] 37)) (.cells #[.int .i64 o.c.bk, .int .i64 o.c.bn] 32)
  have hs0 : (w.alloc (.cells #[.int .i64 0, .int .i64 o.x, .int .i64 o.n, .int .i32 o.c.r, .int .i64 o.c.fk, .int .i64 o.c.fn, .int .i64 o.c.bk, .int .i64 o.c.bn, .int .i64 o.c.fl] 37)).heap.size = w.heap.size + 1 := by simp
  have hs1 : ((w.alloc (.cells #[.int .i64 0, .int .i64 o.x, .int .i64 o.n, .int .i32 o.c.r, .int .i64 o.c.fk, .int .i64 o.c.fn, .int .i64 o.c.bk, .int .i64 o.c.bn, .int .i64 o.c.fl] 37)).alloc (.cells #[.int .i64 o.c.bk, .int .i64 o.c.bn] 32)).heap.size = w.heap.size + 2 := by simp
  have hx0' := ((belA (Below.refl (w.alloc (.cells #[.int .i64 0, .int .i64 o.x, .int .i64 o.n, .int .i32 o.c.r, .int .i64 o.c.fk, .int .i64 o.c.fn, .int .i64 o.c.bk, .int .i64 o.c.bn, .int .i64 o.c.fl] 37)).heap.size _) (.cells #[.int .i64 o.c.bk, .int .i64 o.c.bn] 32)).block w.heap.size (by omega)).trans hx0
  rw [hs0] at hx1
  have HX : Hid (∀ W, Below ((w.alloc (.cells #[.int .i64 0, .int .i64 o.x, .int .i64 o.n, .int .i32 o.c.r, .int .i64 o.c.fk, .int .i64 o.c.fn, .int .i64 o.c.bk, .int .i64 o.c.bn, .int .i64 o.c.fl] 37)).alloc (.cells #[.int .i64 o.c.bk, .int .i64 o.c.bn] 32)).heap.size ((w.alloc (.cells #[.int .i64 0, .int .i64 o.x, .int .i64 o.n, .int .i32 o.c.r, .int .i64 o.c.fk, .int .i64 o.c.fn, .int .i64 o.c.bk, .int .i64 o.c.bn, .int .i64 o.c.fl] 37)).alloc (.cells #[.int .i64 o.c.bk, .int .i64 o.c.bn] 32)) W → (W.cell? ⟨w.heap.size, 0, none⟩ = some (.int .i64 0) ∧ W.cell? ⟨w.heap.size, 1, none⟩ = some (.int .i64 o.x) ∧ W.cell? ⟨w.heap.size, 2, none⟩ = some (.int .i64 o.n) ∧ W.cell? ⟨w.heap.size, 3, none⟩ = some (.int .i32 o.c.r) ∧ W.cell? ⟨w.heap.size, 4, none⟩ = some (.int .i64 o.c.fk) ∧ W.cell? ⟨w.heap.size, 5, none⟩ = some (.int .i64 o.c.fn) ∧ W.cell? ⟨w.heap.size, 6, none⟩ = some (.int .i64 o.c.bk) ∧ W.cell? ⟨w.heap.size, 7, none⟩ = some (.int .i64 o.c.bn) ∧ W.cell? ⟨w.heap.size, 8, none⟩ = some (.int .i64 o.c.fl)) ∧ W.cell? ⟨w.heap.size + 1, 0, none⟩ = some (.int .i64 o.c.bk) ∧ W.cell? ⟨w.heap.size + 1, 1, none⟩ = some (.int .i64 o.c.bn)) := Lib.hid fun W hW => by
    have q0 := (hW.block w.heap.size (by omega)).trans hx0'
    have q1 := (hW.block (w.heap.size + 1) (by omega)).trans hx1
    exact ⟨⟨cell_of_row _ _ 0 _ _ _ q0, cell_of_row _ _ 1 _ _ _ q0, cell_of_row _ _ 2 _ _ _ q0, cell_of_row _ _ 3 _ _ _ q0, cell_of_row _ _ 4 _ _ _ q0, cell_of_row _ _ 5 _ _ _ q0, cell_of_row _ _ 6 _ _ _ q0, cell_of_row _ _ 7 _ _ _ q0, cell_of_row _ _ 8 _ _ _ q0⟩, cell_of_row _ _ 0 _ _ _ q1, cell_of_row _ _ 1 _ _ _ q1⟩
  have HW1 := Lib.hid hw1
  clear h hn hl hT hs hA hL hw1 hx0 hx1 hx0' hs0 hs1 hk
  generalize opRow l o = L at *
  go_enter Tryd.func21, Tryd.ntmps21
  go_wp2_with (first
    | (go_at_call 19; (with_reducible refine (HA.out _ HW1.out).mono ?_); rintro e w2 ⟨v1, rfl, ho, hb⟩; obtain ⟨⟨x0, x1, x2, x3, x4, x5, x6, x7, x8⟩, y0, y1⟩ := HX.out _ hb; have HO := Lib.hid ho; have HB := Lib.hid (bel0 HW1.out hb); clear ho hb)
    | (go_at_call 41; (with_reducible refine (HC.out _ HB.out).mono ?_); rintro e w3 ⟨v2, rfl, ho3, hb3⟩; have HO3 := Lib.hid ho3; have HOP := Lib.hid (HO.out.past hb3); have HB3 := Lib.hid (bel0 HB.out hb3); clear ho3 hb3))
  go_ret2
  exact ⟨⟨v1, v2, rfl, HOP.out, HO3.out⟩, HB3.out⟩
set_option maxRecDepth 100000 in
set_option maxHeartbeats 4000000 in
theorem does_1 (A : Option Addr) (l : List CC) (n c : Nat) (o : OP) (hk : o.k = 1) (hn : n = l.length) (hl : n ≤ 1000) (hs : ∀ x, x < l.length → (Ac (mendL l) x).m.size ≤ 4611686018427387904) (w : World) (hT : WT w) (h : RC w w.heap.size A l) :
    Calls Tryd.prog 21 #[.slice A n c, .agg #[.int .i64 1, .int .i64 o.x, .int .i64 o.n, .int .i32 o.c.r, .int .i64 o.c.fk, .int .i64 o.c.fn, .int .i64 o.c.bk, .int .i64 o.c.bn, .int .i64 o.c.fl]] w fun e w' => Both w.heap.size (opRow l o) e w' ∧ Below w.heap.size w w' := by
  have hA := fun W (hW : Below w.heap.size w W) => alone_any A l n c o hn hl hs W (hT.below hW) (h.past hW)
  rw [hk] at hA
  have hL : opRow l o = markRow l o.x o.c.r := by unfold opRow; rw [if_neg (by rw [hk]; decide)]; rw [if_pos hk]
  have HC : Hid (∀ W, Below w.heap.size w W → Calls Tryd.prog 42 #[.slice A n c, .int .i64 o.x, .int .i32 o.c.r] W fun e w' => ∃ v, e = .returned v ∧ OC w.heap.size w' v (opRow l o) ∧ Below W.heap.size W w') := Lib.hid fun W hW => by
    rw [hL]
    exact (refMark_any A l n c o.x o.c.r hn hl hs W (h.past hW)).mono fun e w' ⟨v, he, ho, hb⟩ => ⟨v, he, ho.lower hW.size, hb⟩
  have HA : Hid (∀ W, Below w.heap.size w W → Calls Tryd.prog 19 #[.slice A n c, .agg #[.int .i64 1, .int .i64 o.x, .int .i64 o.n, .int .i32 o.c.r, .int .i64 o.c.fk, .int .i64 o.c.fn, .int .i64 o.c.bk, .int .i64 o.c.bn, .int .i64 o.c.fl]] W fun e w' => ∃ v, e = .returned v ∧ OC w.heap.size w' v (opRow l o) ∧ Below W.heap.size W w') := Lib.hid fun W hW =>
    (hA W hW).mono fun e w' ⟨v, he, ho, hb⟩ => ⟨v, he, ho.lower hW.size, hb⟩
  have hw1 : Below w.heap.size w ((w.alloc (.cells #[.int .i64 1, .int .i64 o.x, .int .i64 o.n, .int .i32 o.c.r, .int .i64 o.c.fk, .int .i64 o.c.fn, .int .i64 o.c.bk, .int .i64 o.c.bn, .int .i64 o.c.fl] 37)).alloc (.cells #[.int .i64 o.c.bk, .int .i64 o.c.bn] 32)) := belA (belA (Below.refl _ _) _) _
  have hx0 := heap_alloc_new w (.cells #[.int .i64 1, .int .i64 o.x, .int .i64 o.n, .int .i32 o.c.r, .int .i64 o.c.fk, .int .i64 o.c.fn, .int .i64 o.c.bk, .int .i64 o.c.bn, .int .i64 o.c.fl] 37)
  have hx1 := heap_alloc_new (w.alloc (.cells #[.int .i64 1, .int .i64 o.x, .int .i64 o.n, .int .i32 o.c.r, .int .i64 o.c.fk, .int .i64 o.c.fn, .int .i64 o.c.bk, .int .i64 o.c.bn, .int .i64 o.c.fl] 37)) (.cells #[.int .i64 o.c.bk, .int .i64 o.c.bn] 32)
  have hs0 : (w.alloc (.cells #[.int .i64 1, .int .i64 o.x, .int .i64 o.n, .int .i32 o.c.r, .int .i64 o.c.fk, .int .i64 o.c.fn, .int .i64 o.c.bk, .int .i64 o.c.bn, .int .i64 o.c.fl] 37)).heap.size = w.heap.size + 1 := by simp
  have hs1 : ((w.alloc (.cells #[.int .i64 1, .int .i64 o.x, .int .i64 o.n, .int .i32 o.c.r, .int .i64 o.c.fk, .int .i64 o.c.fn, .int .i64 o.c.bk, .int .i64 o.c.bn, .int .i64 o.c.fl] 37)).alloc (.cells #[.int .i64 o.c.bk, .int .i64 o.c.bn] 32)).heap.size = w.heap.size + 2 := by simp
  have hx0' := ((belA (Below.refl (w.alloc (.cells #[.int .i64 1, .int .i64 o.x, .int .i64 o.n, .int .i32 o.c.r, .int .i64 o.c.fk, .int .i64 o.c.fn, .int .i64 o.c.bk, .int .i64 o.c.bn, .int .i64 o.c.fl] 37)).heap.size _) (.cells #[.int .i64 o.c.bk, .int .i64 o.c.bn] 32)).block w.heap.size (by omega)).trans hx0
  rw [hs0] at hx1
  have HX : Hid (∀ W, Below ((w.alloc (.cells #[.int .i64 1, .int .i64 o.x, .int .i64 o.n, .int .i32 o.c.r, .int .i64 o.c.fk, .int .i64 o.c.fn, .int .i64 o.c.bk, .int .i64 o.c.bn, .int .i64 o.c.fl] 37)).alloc (.cells #[.int .i64 o.c.bk, .int .i64 o.c.bn] 32)).heap.size ((w.alloc (.cells #[.int .i64 1, .int .i64 o.x, .int .i64 o.n, .int .i32 o.c.r, .int .i64 o.c.fk, .int .i64 o.c.fn, .int .i64 o.c.bk, .int .i64 o.c.bn, .int .i64 o.c.fl] 37)).alloc (.cells #[.int .i64 o.c.bk, .int .i64 o.c.bn] 32)) W → (W.cell? ⟨w.heap.size, 0, none⟩ = some (.int .i64 1) ∧ W.cell? ⟨w.heap.size, 1, none⟩ = some (.int .i64 o.x) ∧ W.cell? ⟨w.heap.size, 2, none⟩ = some (.int .i64 o.n) ∧ W.cell? ⟨w.heap.size, 3, none⟩ = some (.int .i32 o.c.r) ∧ W.cell? ⟨w.heap.size, 4, none⟩ = some (.int .i64 o.c.fk) ∧ W.cell? ⟨w.heap.size, 5, none⟩ = some (.int .i64 o.c.fn) ∧ W.cell? ⟨w.heap.size, 6, none⟩ = some (.int .i64 o.c.bk) ∧ W.cell? ⟨w.heap.size, 7, none⟩ = some (.int .i64 o.c.bn) ∧ W.cell? ⟨w.heap.size, 8, none⟩ = some (.int .i64 o.c.fl)) ∧ W.cell? ⟨w.heap.size + 1, 0, none⟩ = some (.int .i64 o.c.bk) ∧ W.cell? ⟨w.heap.size + 1, 1, none⟩ = some (.int .i64 o.c.bn)) := Lib.hid fun W hW => by
    have q0 := (hW.block w.heap.size (by omega)).trans hx0'
    have q1 := (hW.block (w.heap.size + 1) (by omega)).trans hx1
    exact ⟨⟨cell_of_row _ _ 0 _ _ _ q0, cell_of_row _ _ 1 _ _ _ q0, cell_of_row _ _ 2 _ _ _ q0, cell_of_row _ _ 3 _ _ _ q0, cell_of_row _ _ 4 _ _ _ q0, cell_of_row _ _ 5 _ _ _ q0, cell_of_row _ _ 6 _ _ _ q0, cell_of_row _ _ 7 _ _ _ q0, cell_of_row _ _ 8 _ _ _ q0⟩, cell_of_row _ _ 0 _ _ _ q1, cell_of_row _ _ 1 _ _ _ q1⟩
  have HW1 := Lib.hid hw1
  clear h hn hl hT hs hA hL hw1 hx0 hx1 hx0' hs0 hs1 hk
  generalize opRow l o = L at *
  go_enter Tryd.func21, Tryd.ntmps21
  go_wp2_with (first
    | (go_at_call 19; (with_reducible refine (HA.out _ HW1.out).mono ?_); rintro e w2 ⟨v1, rfl, ho, hb⟩; obtain ⟨⟨x0, x1, x2, x3, x4, x5, x6, x7, x8⟩, y0, y1⟩ := HX.out _ hb; have HO := Lib.hid ho; have HB := Lib.hid (bel0 HW1.out hb); clear ho hb)
    | (go_at_call 42; (with_reducible refine (HC.out _ HB.out).mono ?_); rintro e w3 ⟨v2, rfl, ho3, hb3⟩; have HO3 := Lib.hid ho3; have HOP := Lib.hid (HO.out.past hb3); have HB3 := Lib.hid (bel0 HB.out hb3); clear ho3 hb3))
  go_ret2
  exact ⟨⟨v1, v2, rfl, HOP.out, HO3.out⟩, HB3.out⟩
set_option maxRecDepth 100000 in
set_option maxHeartbeats 4000000 in
theorem does_2 (A : Option Addr) (l : List CC) (n c : Nat) (o : OP) (hk : o.k = 2) (hn : n = l.length) (hl : n ≤ 1000) (hs : ∀ x, x < l.length → (Ac (mendL l) x).m.size ≤ 4611686018427387904) (w : World) (hT : WT w) (h : RC w w.heap.size A l) :
    Calls Tryd.prog 21 #[.slice A n c, .agg #[.int .i64 2, .int .i64 o.x, .int .i64 o.n, .int .i32 o.c.r, .int .i64 o.c.fk, .int .i64 o.c.fn, .int .i64 o.c.bk, .int .i64 o.c.bn, .int .i64 o.c.fl]] w fun e w' => Both w.heap.size (opRow l o) e w' ∧ Below w.heap.size w w' := by
  have hA := fun W (hW : Below w.heap.size w W) => alone_any A l n c o hn hl hs W (hT.below hW) (h.past hW)
  rw [hk] at hA
  have hL : opRow l o = eraseZ l o.x o.n (blankC o.c.bk o.c.bn) := by unfold opRow; rw [if_neg (by rw [hk]; decide)]; rw [if_neg (by rw [hk]; decide)]; rw [if_pos hk]
  have HC : Hid (∀ W, Below w.heap.size w W → Calls Tryd.prog 43 #[.slice A n c, .int .i64 o.x, .int .i64 o.n, .agg #[.int .i64 o.c.bk, .int .i64 o.c.bn]] W fun e w' => ∃ v, e = .returned v ∧ OC w.heap.size w' v (opRow l o) ∧ Below W.heap.size W w') := Lib.hid fun W hW => by
    rw [hL]
    exact (refErase_any A l n c (max o.x 0).toNat (max (min o.n (l.length : Int)) (max o.x 0)).toNat o.x o.n o.c.bk o.c.bn hn hl (by omega) (by omega) W (h.past hW)).mono fun e w' ⟨v, he, ho, hb⟩ => ⟨v, he, ho.lower hW.size, hb⟩
  have HA : Hid (∀ W, Below w.heap.size w W → Calls Tryd.prog 19 #[.slice A n c, .agg #[.int .i64 2, .int .i64 o.x, .int .i64 o.n, .int .i32 o.c.r, .int .i64 o.c.fk, .int .i64 o.c.fn, .int .i64 o.c.bk, .int .i64 o.c.bn, .int .i64 o.c.fl]] W fun e w' => ∃ v, e = .returned v ∧ OC w.heap.size w' v (opRow l o) ∧ Below W.heap.size W w') := Lib.hid fun W hW =>
    (hA W hW).mono fun e w' ⟨v, he, ho, hb⟩ => ⟨v, he, ho.lower hW.size, hb⟩
  have hw1 : Below w.heap.size w ((w.alloc (.cells #[.int .i64 2, .int .i64 o.x, .int .i64 o.n, .int .i32 o.c.r, .int .i64 o.c.fk, .int .i64 o.c.fn, .int .i64 o.c.bk, .int .i64 o.c.bn, .int .i64 o.c.fl] 37)).alloc (.cells #[.int .i64 o.c.bk, .int .i64 o.c.bn] 32)) := belA (belA (Below.refl _ _) _) _
  have hx0 := heap_alloc_new w (.cells #[.int .i64 2, .int .i64 o.x, .int .i64 o.n, .int .i32 o.c.r, .int .i64 o.c.fk, .int .i64 o.c.fn, .int .i64 o.c.bk, .int .i64 o.c.bn, .int .i64 o.c.fl] 37)
  have hx1 := heap_alloc_new (w.alloc (.cells #[.int .i64 2, .int .i64 o.x, .int .i64 o.n, .int .i32 o.c.r, .int .i64 o.c.fk, .int .i64 o.c.fn, .int .i64 o.c.bk, .int .i64 o.c.bn, .int .i64 o.c.fl] 37)) (.cells #[.int .i64 o.c.bk, .int .i64 o.c.bn] 32)
  have hs0 : (w.alloc (.cells #[.int .i64 2, .int .i64 o.x, .int .i64 o.n, .int .i32 o.c.r, .int .i64 o.c.fk, .int .i64 o.c.fn, .int .i64 o.c.bk, .int .i64 o.c.bn, .int .i64 o.c.fl] 37)).heap.size = w.heap.size + 1 := by simp
  have hs1 : ((w.alloc (.cells #[.int .i64 2, .int .i64 o.x, .int .i64 o.n, .int .i32 o.c.r, .int .i64 o.c.fk, .int .i64 o.c.fn, .int .i64 o.c.bk, .int .i64 o.c.bn, .int .i64 o.c.fl] 37)).alloc (.cells #[.int .i64 o.c.bk, .int .i64 o.c.bn] 32)).heap.size = w.heap.size + 2 := by simp
  have hx0' := ((belA (Below.refl (w.alloc (.cells #[.int .i64 2, .int .i64 o.x, .int .i64 o.n, .int .i32 o.c.r, .int .i64 o.c.fk, .int .i64 o.c.fn, .int .i64 o.c.bk, .int .i64 o.c.bn, .int .i64 o.c.fl] 37)).heap.size _) (.cells #[.int .i64 o.c.bk, .int .i64 o.c.bn] 32)).block w.heap.size (by omega)).trans hx0
  rw [hs0] at hx1
  have HX : Hid (∀ W, Below ((w.alloc (.cells #[.int .i64 2, .int .i64 o.x, .int .i64 o.n, .int .i32 o.c.r, .int .i64 o.c.fk, .int .i64 o.c.fn, .int .i64 o.c.bk, .int .i64 o.c.bn, .int .i64 o.c.fl] 37)).alloc (.cells #[.int .i64 o.c.bk, .int .i64 o.c.bn] 32)).heap.size ((w.alloc (.cells #[.int .i64 2, .int .i64 o.x, .int .i64 o.n, .int .i32 o.c.r, .int .i64 o.c.fk, .int .i64 o.c.fn, .int .i64 o.c.bk, .int .i64 o.c.bn, .int .i64 o.c.fl] 37)).alloc (.cells #[.int .i64 o.c.bk, .int .i64 o.c.bn] 32)) W → (W.cell? ⟨w.heap.size, 0, none⟩ = some (.int .i64 2) ∧ W.cell? ⟨w.heap.size, 1, none⟩ = some (.int .i64 o.x) ∧ W.cell? ⟨w.heap.size, 2, none⟩ = some (.int .i64 o.n) ∧ W.cell? ⟨w.heap.size, 3, none⟩ = some (.int .i32 o.c.r) ∧ W.cell? ⟨w.heap.size, 4, none⟩ = some (.int .i64 o.c.fk) ∧ W.cell? ⟨w.heap.size, 5, none⟩ = some (.int .i64 o.c.fn) ∧ W.cell? ⟨w.heap.size, 6, none⟩ = some (.int .i64 o.c.bk) ∧ W.cell? ⟨w.heap.size, 7, none⟩ = some (.int .i64 o.c.bn) ∧ W.cell? ⟨w.heap.size, 8, none⟩ = some (.int .i64 o.c.fl)) ∧ W.cell? ⟨w.heap.size + 1, 0, none⟩ = some (.int .i64 o.c.bk) ∧ W.cell? ⟨w.heap.size + 1, 1, none⟩ = some (.int .i64 o.c.bn)) := Lib.hid fun W hW => by
    have q0 := (hW.block w.heap.size (by omega)).trans hx0'
    have q1 := (hW.block (w.heap.size + 1) (by omega)).trans hx1
    exact ⟨⟨cell_of_row _ _ 0 _ _ _ q0, cell_of_row _ _ 1 _ _ _ q0, cell_of_row _ _ 2 _ _ _ q0, cell_of_row _ _ 3 _ _ _ q0, cell_of_row _ _ 4 _ _ _ q0, cell_of_row _ _ 5 _ _ _ q0, cell_of_row _ _ 6 _ _ _ q0, cell_of_row _ _ 7 _ _ _ q0, cell_of_row _ _ 8 _ _ _ q0⟩, cell_of_row _ _ 0 _ _ _ q1, cell_of_row _ _ 1 _ _ _ q1⟩
  have HW1 := Lib.hid hw1
  clear h hn hl hT hs hA hL hw1 hx0 hx1 hx0' hs0 hs1 hk
  generalize opRow l o = L at *
  go_enter Tryd.func21, Tryd.ntmps21
  go_wp2_with (first
    | (go_at_call 19; (with_reducible refine (HA.out _ HW1.out).mono ?_); rintro e w2 ⟨v1, rfl, ho, hb⟩; obtain ⟨⟨x0, x1, x2, x3, x4, x5, x6, x7, x8⟩, y0, y1⟩ := HX.out _ hb; have HO := Lib.hid ho; have HB := Lib.hid (bel0 HW1.out hb); clear ho hb)
    | (go_at_call 43; (with_reducible refine (HC.out _ HB.out).mono ?_); rintro e w3 ⟨v2, rfl, ho3, hb3⟩; have HO3 := Lib.hid ho3; have HOP := Lib.hid (HO.out.past hb3); have HB3 := Lib.hid (bel0 HB.out hb3); clear ho3 hb3))
  go_ret2
  exact ⟨⟨v1, v2, rfl, HOP.out, HO3.out⟩, HB3.out⟩
set_option maxRecDepth 100000 in
set_option maxHeartbeats 4000000 in
theorem does_3 (A : Option Addr) (l : List CC) (n c : Nat) (o : OP) (hk : o.k = 3) (hn : n = l.length) (hl : n ≤ 1000) (hs : ∀ x, x < l.length → (Ac (mendL l) x).m.size ≤ 4611686018427387904) (w : World) (hT : WT w) (h : RC w w.heap.size A l) :
    Calls Tryd.prog 21 #[.slice A n c, .agg #[.int .i64 3, .int .i64 o.x, .int .i64 o.n, .int .i32 o.c.r, .int .i64 o.c.fk, .int .i64 o.c.fn, .int .i64 o.c.bk, .int .i64 o.c.bn, .int .i64 o.c.fl]] w fun e w' => Both w.heap.size (opRow l o) e w' ∧ Below w.heap.size w w' := by
  have hA := fun W (hW : Below w.heap.size w W) => alone_any A l n c o hn hl hs W (hT.below hW) (h.past hW)
  rw [hk] at hA
  have hL : opRow l o = insRow l o.x o.n (blankC o.c.bk o.c.bn) := by unfold opRow; rw [if_neg (by rw [hk]; decide)]; rw [if_neg (by rw [hk]; decide)]; rw [if_neg (by rw [hk]; decide)]; rw [if_pos hk]
  have HC : Hid (∀ W, Below w.heap.size w W → Calls Tryd.prog 44 #[.slice A n c, .int .i64 o.x, .int .i64 o.n, .agg #[.int .i64 o.c.bk, .int .i64 o.c.bn]] W fun e w' => ∃ v, e = .returned v ∧ OC w.heap.size w' v (opRow l o) ∧ Below W.heap.size W w') := Lib.hid fun W hW => by
    rw [hL]
    exact (refInsert_any A l n c o.x o.n o.c.bk o.c.bn hn hl W (h.past hW)).mono fun e w' ⟨v, he, ho, hb⟩ => ⟨v, he, ho.lower hW.size, hb⟩
  have HA : Hid (∀ W, Below w.heap.size w W → Calls Tryd.prog 19 #[.slice A n c, .agg #[.int .i64 3, .int .i64 o.x, .int .i64 o.n, .int .i32 o.c.r, .int .i64 o.c.fk, .int .i64 o.c.fn, .int .i64 o.c.bk, .int .i64 o.c.bn, .int .i64 o.c.fl]] W fun e w' => ∃ v, e = .returned v ∧ OC w.heap.size w' v (opRow l o) ∧ Below W.heap.size W w') := Lib.hid fun W hW =>
    (hA W hW).mono fun e w' ⟨v, he, ho, hb⟩ => ⟨v, he, ho.lower hW.size, hb⟩
  have hw1 : Below w.heap.size w ((w.alloc (.cells #[.int .i64 3, .int .i64 o.x, .int .i64 o.n, .int .i32 o.c.r, .int .i64 o.c.fk, .int .i64 o.c.fn, .int .i64 o.c.bk, .int .i64 o.c.bn, .int .i64 o.c.fl] 37)).alloc (.cells #[.int .i64 o.c.bk, .int .i64 o.c.bn] 32)) := belA (belA (Below.refl _ _) _) _
  have hx0 := heap_alloc_new w (.cells #[.int .i64 3, .int .i64 o.x, .int .i64 o.n, .int .i32 o.c.r, .int .i64 o.c.fk, .int .i64 o.c.fn, .int .i64 o.c.bk, .int .i64 o.c.bn, .int .i64 o.c.fl] 37)
  have hx1 := heap_alloc_new (w.alloc (.cells #[.int .i64 3, .int .i64 o.x, .int .i64 o.n, .int .i32 o.c.r, .int .i64 o.c.fk, .int .i64 o.c.fn, .int .i64 o.c.bk, .int .i64 o.c.bn, .int .i64 o.c.fl] 37)) (.cells #[.int .i64 o.c.bk, .int .i64 o.c.bn] 32)
  have hs0 : (w.alloc (.cells #[.int .i64 3, .int .i64 o.x, .int .i64 o.n, .int .i32 o.c.r, .int .i64 o.c.fk, .int .i64 o.c.fn, .int .i64 o.c.bk, .int .i64 o.c.bn, .int .i64 o.c.fl] 37)).heap.size = w.heap.size + 1 := by simp
  have hs1 : ((w.alloc (.cells #[.int .i64 3, .int .i64 o.x, .int .i64 o.n, .int .i32 o.c.r, .int .i64 o.c.fk, .int .i64 o.c.fn, .int .i64 o.c.bk, .int .i64 o.c.bn, .int .i64 o.c.fl] 37)).alloc (.cells #[.int .i64 o.c.bk, .int .i64 o.c.bn] 32)).heap.size = w.heap.size + 2 := by simp
  have hx0' := ((belA (Below.refl (w.alloc (.cells #[.int .i64 3, .int .i64 o.x, .int .i64 o.n, .int .i32 o.c.r, .int .i64 o.c.fk, .int .i64 o.c.fn, .int .i64 o.c.bk, .int .i64 o.c.bn, .int .i64 o.c.fl] 37)).heap.size _) (.cells #[.int .i64 o.c.bk, .int .i64 o.c.bn] 32)).block w.heap.size (by omega)).trans hx0
  rw [hs0] at hx1
  have HX : Hid (∀ W, Below ((w.alloc (.cells #[.int .i64 3, .int .i64 o.x, .int .i64 o.n, .int .i32 o.c.r, .int .i64 o.c.fk, .int .i64 o.c.fn, .int .i64 o.c.bk, .int .i64 o.c.bn, .int .i64 o.c.fl] 37)).alloc (.cells #[.int .i64 o.c.bk, .int .i64 o.c.bn] 32)).heap.size ((w.alloc (.cells #[.int .i64 3, .int .i64 o.x, .int .i64 o.n, .int .i32 o.c.r, .int .i64 o.c.fk, .int .i64 o.c.fn, .int .i64 o.c.bk, .int .i64 o.c.bn, .int .i64 o.c.fl] 37)).alloc (.cells #[.int .i64 o.c.bk, .int .i64 o.c.bn] 32)) W → (W.cell? ⟨w.heap.size, 0, none⟩ = some (.int .i64 3) ∧ W.cell? ⟨w.heap.size, 1, none⟩ = some (.int .i64 o.x) ∧ W.cell? ⟨w.heap.size, 2, none⟩ = some (.int .i64 o.n) ∧ W.cell? ⟨w.heap.size, 3, none⟩ = some (.int .i32 o.c.r) ∧ W.cell? ⟨w.heap.size, 4, none⟩ = some (.int .i64 o.c.fk) ∧ W.cell? ⟨w.heap.size, 5, none⟩ = some (.int .i64 o.c.fn) ∧ W.cell? ⟨w.heap.size, 6, none⟩ = some (.int .i64 o.c.bk) ∧ W.cell? ⟨w.heap.size, 7, none⟩ = some (.int .i64 o.c.bn) ∧ W.cell? ⟨w.heap.size, 8, none⟩ = some (.int .i64 o.c.fl)) ∧ W.cell? ⟨w.heap.size + 1, 0, none⟩ = some (.int .i64 o.c.bk) ∧ W.cell? ⟨w.heap.size + 1, 1, none⟩ = some (.int .i64 o.c.bn)) := Lib.hid fun W hW => by
    have q0 := (hW.block w.heap.size (by omega)).trans hx0'
    have q1 := (hW.block (w.heap.size + 1) (by omega)).trans hx1
    exact ⟨⟨cell_of_row _ _ 0 _ _ _ q0, cell_of_row _ _ 1 _ _ _ q0, cell_of_row _ _ 2 _ _ _ q0, cell_of_row _ _ 3 _ _ _ q0, cell_of_row _ _ 4 _ _ _ q0, cell_of_row _ _ 5 _ _ _ q0, cell_of_row _ _ 6 _ _ _ q0, cell_of_row _ _ 7 _ _ _ q0, cell_of_row _ _ 8 _ _ _ q0⟩, cell_of_row _ _ 0 _ _ _ q1, cell_of_row _ _ 1 _ _ _ q1⟩
  have HW1 := Lib.hid hw1
  clear h hn hl hT hs hA hL hw1 hx0 hx1 hx0' hs0 hs1 hk
  generalize opRow l o = L at *
  go_enter Tryd.func21, Tryd.ntmps21
  go_wp2_with (first
    | (go_at_call 19; (with_reducible refine (HA.out _ HW1.out).mono ?_); rintro e w2 ⟨v1, rfl, ho, hb⟩; obtain ⟨⟨x0, x1, x2, x3, x4, x5, x6, x7, x8⟩, y0, y1⟩ := HX.out _ hb; have HO := Lib.hid ho; have HB := Lib.hid (bel0 HW1.out hb); clear ho hb)
    | (go_at_call 44; (with_reducible refine (HC.out _ HB.out).mono ?_); rintro e w3 ⟨v2, rfl, ho3, hb3⟩; have HO3 := Lib.hid ho3; have HOP := Lib.hid (HO.out.past hb3); have HB3 := Lib.hid (bel0 HB.out hb3); clear ho3 hb3))
  go_ret2
  exact ⟨⟨v1, v2, rfl, HOP.out, HO3.out⟩, HB3.out⟩
set_option maxRecDepth 100000 in
set_option maxHeartbeats 4000000 in
theorem does_4 (A : Option Addr) (l : List CC) (n c : Nat) (o : OP) (hk : o.k = 4) (hn : n = l.length) (hl : n ≤ 1000) (hs : ∀ x, x < l.length → (Ac (mendL l) x).m.size ≤ 4611686018427387904) (w : World) (hT : WT w) (h : RC w w.heap.size A l) :
    Calls Tryd.prog 21 #[.slice A n c, .agg #[.int .i64 4, .int .i64 o.x, .int .i64 o.n, .int .i32 o.c.r, .int .i64 o.c.fk, .int .i64 o.c.fn, .int .i64 o.c.bk, .int .i64 o.c.bn, .int .i64 o.c.fl]] w fun e w' => Both w.heap.size (opRow l o) e w' ∧ Below w.heap.size w w' := by
  have hA := fun W (hW : Below w.heap.size w W) => alone_any A l n c o hn hl hs W (hT.below hW) (h.past hW)
  rw [hk] at hA
  have hL : opRow l o = delRow l o.x o.n (blankC o.c.bk o.c.bn) := by unfold opRow; rw [if_neg (by rw [hk]; decide)]; rw [if_neg (by rw [hk]; decide)]; rw [if_neg (by rw [hk]; decide)]; rw [if_neg (by rw [hk]; decide)]; rw [if_pos hk]
  have HC : Hid (∀ W, Below w.heap.size w W → Calls Tryd.prog 45 #[.slice A n c, .int .i64 o.x, .int .i64 o.n, .agg #[.int .i64 o.c.bk, .int .i64 o.c.bn]] W fun e w' => ∃ v, e = .returned v ∧ OC w.heap.size w' v (opRow l o) ∧ Below W.heap.size W w') := Lib.hid fun W hW => by
    rw [hL]
    exact (refDelete_any A l n c o.x o.n o.c.bk o.c.bn hn hl W (h.past hW)).mono fun e w' ⟨v, he, ho, hb⟩ => ⟨v, he, ho.lower hW.size, hb⟩
  have HA : Hid (∀ W, Below w.heap.size w W → Calls Tryd.prog 19 #[.slice A n c, .agg #[.int .i64 4, .int .i64 o.x, .int .i64 o.n, .int .i32 o.c.r, .int .i64 o.c.fk, .int .i64 o.c.fn, .int .i64 o.c.bk, .int .i64 o.c.bn, .int .i64 o.c.fl]] W fun e w' => ∃ v, e = .returned v ∧ OC w.heap.size w' v (opRow l o) ∧ Below W.heap.size W w') := Lib.hid fun W hW =>
    (hA W hW).mono fun e w' ⟨v, he, ho, hb⟩ => ⟨v, he, ho.lower hW.size, hb⟩
  have hw1 : Below w.heap.size w ((w.alloc (.cells #[.int .i64 4, .int .i64 o.x, .int .i64 o.n, .int .i32 o.c.r, .int .i64 o.c.fk, .int .i64 o.c.fn, .int .i64 o.c.bk, .int .i64 o.c.bn, .int .i64 o.c.fl] 37)).alloc (.cells #[.int .i64 o.c.bk, .int .i64 o.c.bn] 32)) := belA (belA (Below.refl _ _) _) _
  have hx0 := heap_alloc_new w (.cells #[.int .i64 4, .int .i64 o.x, .int .i64 o.n, .int .i32 o.c.r, .int .i64 o.c.fk, .int .i64 o.c.fn, .int .i64 o.c.bk, .int .i64 o.c.bn, .int .i64 o.c.fl] 37)
  have hx1 := heap_alloc_new (w.alloc (.cells #[.int .i64 4, .int .i64 o.x, .int .i64 o.n, .int .i32 o.c.r, .int .i64 o.c.fk, .int .i64 o.c.fn, .int .i64 o.c.bk, .int .i64 o.c.bn, .int .i64 o.c.fl] 37)) (.cells #[.int .i64 o.c.bk, .int .i64 o.c.bn] 32)
  have hs0 : (w.alloc (.cells #[.int .i64 4, .int .i64 o.x, .int .i64 o.n, .int .i32 o.c.r, .int .i64 o.c.fk, .int .i64 o.c.fn, .int .i64 o.c.bk, .int .i64 o.c.bn, .int .i64 o.c.fl] 37)).heap.size = w.heap.size + 1 := by simp
  have hs1 : ((w.alloc (.cells #[.int .i64 4, .int .i64 o.x, .int .i64 o.n, .int .i32 o.c.r, .int .i64 o.c.fk, .int .i64 o.c.fn, .int .i64 o.c.bk, .int .i64 o.c.bn, .int .i64 o.c.fl] 37)).alloc (.cells #[.int .i64 o.c.bk, .int .i64 o.c.bn] 32)).heap.size = w.heap.size + 2 := by simp
  have hx0' := ((belA (Below.refl (w.alloc (.cells #[.int .i64 4, .int .i64 o.x, .int .i64 o.n, .int .i32 o.c.r, .int .i64 o.c.fk, .int .i64 o.c.fn, .int .i64 o.c.bk, .int .i64 o.c.bn, .int .i64 o.c.fl] 37)).heap.size _) (.cells #[.int .i64 o.c.bk, .int .i64 o.c.bn] 32)).block w.heap.size (by omega)).trans hx0
  rw [hs0] at hx1
  have HX : Hid (∀ W, Below ((w.alloc (.cells #[.int .i64 4, .int .i64 o.x, .int .i64 o.n, .int .i32 o.c.r, .int .i64 o.c.fk, .int .i64 o.c.fn, .int .i64 o.c.bk, .int .i64 o.c.bn, .int .i64 o.c.fl] 37)).alloc (.cells #[.int .i64 o.c.bk, .int .i64 o.c.bn] 32)).heap.size ((w.alloc (.cells #[.int .i64 4, .int .i64 o.x, .int .i64 o.n, .int .i32 o.c.r, .int .i64 o.c.fk, .int .i64 o.c.fn, .int .i64 o.c.bk, .int .i64 o.c.bn, .int .i64 o.c.fl] 37)).alloc (.cells #[.int .i64 o.c.bk, .int .i64 o.c.bn] 32)) W → (W.cell? ⟨w.heap.size, 0, none⟩ = some (.int .i64 4) ∧ W.cell? ⟨w.heap.size, 1, none⟩ = some (.int .i64 o.x) ∧ W.cell? ⟨w.heap.size, 2, none⟩ = some (.int .i64 o.n) ∧ W.cell? ⟨w.heap.size, 3, none⟩ = some (.int .i32 o.c.r) ∧ W.cell? ⟨w.heap.size, 4, none⟩ = some (.int .i64 o.c.fk) ∧ W.cell? ⟨w.heap.size, 5, none⟩ = some (.int .i64 o.c.fn) ∧ W.cell? ⟨w.heap.size, 6, none⟩ = some (.int .i64 o.c.bk) ∧ W.cell? ⟨w.heap.size, 7, none⟩ = some (.int .i64 o.c.bn) ∧ W.cell? ⟨w.heap.size, 8, none⟩ = some (.int .i64 o.c.fl)) ∧ W.cell? ⟨w.heap.size + 1, 0, none⟩ = some (.int .i64 o.c.bk) ∧ W.cell? ⟨w.heap.size + 1, 1, none⟩ = some (.int .i64 o.c.bn)) := Lib.hid fun W hW => by
    have q0 := (hW.block w.heap.size (by omega)).trans hx0'
    have q1 := (hW.block (w.heap.size + 1) (by omega)).trans hx1
    exact ⟨⟨cell_of_row _ _ 0 _ _ _ q0, cell_of_row _ _ 1 _ _ _ q0, cell_of_row _ _ 2 _ _ _ q0, cell_of_row _ _ 3 _ _ _ q0, cell_of_row _ _ 4 _ _ _ q0, cell_of_row _ _ 5 _ _ _ q0, cell_of_row _ _ 6 _ _ _ q0, cell_of_row _ _ 7 _ _ _ q0, cell_of_row _ _ 8 _ _ _ q0⟩, cell_of_row _ _ 0 _ _ _ q1, cell_of_row _ _ 1 _ _ _ q1⟩
  have HW1 := Lib.hid hw1
  clear h hn hl hT hs hA hL hw1 hx0 hx1 hx0' hs0 hs1 hk
  generalize opRow l o = L at *
  go_enter Tryd.func21, Tryd.ntmps21
  go_wp2_with (first
    | (go_at_call 19; (with_reducible refine (HA.out _ HW1.out).mono ?_); rintro e w2 ⟨v1, rfl, ho, hb⟩; obtain ⟨⟨x0, x1, x2, x3, x4, x5, x6, x7, x8⟩, y0, y1⟩ := HX.out _ hb; have HO := Lib.hid ho; have HB := Lib.hid (bel0 HW1.out hb); clear ho hb)
    | (go_at_call 45; (with_reducible refine (HC.out _ HB.out).mono ?_); rintro e w3 ⟨v2, rfl, ho3, hb3⟩; have HO3 := Lib.hid ho3; have HOP := Lib.hid (HO.out.past hb3); have HB3 := Lib.hid (bel0 HB.out hb3); clear ho3 hb3))
  go_ret2
  exact ⟨⟨v1, v2, rfl, HOP.out, HO3.out⟩, HB3.out⟩
set_option maxRecDepth 100000 in
set_option maxHeartbeats 4000000 in
theorem does_5 (A : Option Addr) (l : List CC) (n c : Nat) (o : OP) (hk : o.k = 5) (hn : n = l.length) (hl : n ≤ 1000) (hs : ∀ x, x < l.length → (Ac (mendL l) x).m.size ≤ 4611686018427387904) (w : World) (hT : WT w) (h : RC w w.heap.size A l) :
    Calls Tryd.prog 21 #[.slice A n c, .agg #[.int .i64 5, .int .i64 o.x, .int .i64 o.n, .int .i32 o.c.r, .int .i64 o.c.fk, .int .i64 o.c.fn, .int .i64 o.c.bk, .int .i64 o.c.bn, .int .i64 o.c.fl]] w fun e w' => Both w.heap.size (opRow l o) e w' ∧ Below w.heap.size w w' := by
  have hA := fun W (hW : Below w.heap.size w W) => alone_any A l n c o hn hl hs W (hT.below hW) (h.past hW)
  rw [hk] at hA
  have hL : opRow l o = closeRow l := by unfold opRow; rw [if_neg (by rw [hk]; decide)]; rw [if_neg (by rw [hk]; decide)]; rw [if_neg (by rw [hk]; decide)]; rw [if_neg (by rw [hk]; decide)]; rw [if_neg (by rw [hk]; decide)]; rw [if_pos hk]
  have HC : Hid (∀ W, Below w.heap.size w W → Calls Tryd.prog 46 #[.slice A n c] W fun e w' => ∃ v, e = .returned v ∧ OC w.heap.size w' v (opRow l o) ∧ Below W.heap.size W w') := Lib.hid fun W hW => by
    rw [hL]
    exact (refClose_any A l n c hn hl W (h.past hW)).mono fun e w' ⟨v, he, ho, hb⟩ => ⟨v, he, ho.lower hW.size, hb⟩
  have HA : Hid (∀ W, Below w.heap.size w W → Calls Tryd.prog 19 #[.slice A n c, .agg #[.int .i64 5, .int .i64 o.x, .int .i64 o.n, .int .i32 o.c.r, .int .i64 o.c.fk, .int .i64 o.c.fn, .int .i64 o.c.bk, .int .i64 o.c.bn, .int .i64 o.c.fl]] W fun e w' => ∃ v, e = .returned v ∧ OC w.heap.size w' v (opRow l o) ∧ Below W.heap.size W w') := Lib.hid fun W hW =>
    (hA W hW).mono fun e w' ⟨v, he, ho, hb⟩ => ⟨v, he, ho.lower hW.size, hb⟩
  have hw1 : Below w.heap.size w ((w.alloc (.cells #[.int .i64 5, .int .i64 o.x, .int .i64 o.n, .int .i32 o.c.r, .int .i64 o.c.fk, .int .i64 o.c.fn, .int .i64 o.c.bk, .int .i64 o.c.bn, .int .i64 o.c.fl] 37)).alloc (.cells #[.int .i64 o.c.bk, .int .i64 o.c.bn] 32)) := belA (belA (Below.refl _ _) _) _
  have hx0 := heap_alloc_new w (.cells #[.int .i64 5, .int .i64 o.x, .int .i64 o.n, .int .i32 o.c.r, .int .i64 o.c.fk, .int .i64 o.c.fn, .int .i64 o.c.bk, .int .i64 o.c.bn, .int .i64 o.c.fl] 37)
  have hx1 := heap_alloc_new (w.alloc (.cells #[.int .i64 5, .int .i64 o.x, .int .i64 o.n, .int .i32 o.c.r, .int .i64 o.c.fk, .int .i64 o.c.fn, .int .i64 o.c.bk, .int .i64 o.c.bn, .int .i64 o.c.fl] 37)) (.cells #[.int .i64 o.c.bk, .int .i64 o.c.bn] 32)
  have hs0 : (w.alloc (.cells #[.int .i64 5, .int .i64 o.x, .int .i64 o.n, .int .i32 o.c.r, .int .i64 o.c.fk, .int .i64 o.c.fn, .int .i64 o.c.bk, .int .i64 o.c.bn, .int .i64 o.c.fl] 37)).heap.size = w.heap.size + 1 := by simp
  have hs1 : ((w.alloc (.cells #[.int .i64 5, .int .i64 o.x, .int .i64 o.n, .int .i32 o.c.r, .int .i64 o.c.fk, .int .i64 o.c.fn, .int .i64 o.c.bk, .int .i64 o.c.bn, .int .i64 o.c.fl] 37)).alloc (.cells #[.int .i64 o.c.bk, .int .i64 o.c.bn] 32)).heap.size = w.heap.size + 2 := by simp
  have hx0' := ((belA (Below.refl (w.alloc (.cells #[.int .i64 5, .int .i64 o.x, .int .i64 o.n, .int .i32 o.c.r, .int .i64 o.c.fk, .int .i64 o.c.fn, .int .i64 o.c.bk, .int .i64 o.c.bn, .int .i64 o.c.fl] 37)).heap.size _) (.cells #[.int .i64 o.c.bk, .int .i64 o.c.bn] 32)).block w.heap.size (by omega)).trans hx0
  rw [hs0] at hx1
  have HX : Hid (∀ W, Below ((w.alloc (.cells #[.int .i64 5, .int .i64 o.x, .int .i64 o.n, .int .i32 o.c.r, .int .i64 o.c.fk, .int .i64 o.c.fn, .int .i64 o.c.bk, .int .i64 o.c.bn, .int .i64 o.c.fl] 37)).alloc (.cells #[.int .i64 o.c.bk, .int .i64 o.c.bn] 32)).heap.size ((w.alloc (.cells #[.int .i64 5, .int .i64 o.x, .int .i64 o.n, .int .i32 o.c.r, .int .i64 o.c.fk, .int .i64 o.c.fn, .int .i64 o.c.bk, .int .i64 o.c.bn, .int .i64 o.c.fl] 37)).alloc (.cells #[.int .i64 o.c.bk, .int .i64 o.c.bn] 32)) W → (W.cell? ⟨w.heap.size, 0, none⟩ = some (.int .i64 5) ∧ W.cell? ⟨w.heap.size, 1, none⟩ = some (.int .i64 o.x) ∧ W.cell? ⟨w.heap.size, 2, none⟩ = some (.int .i64 o.n) ∧ W.cell? ⟨w.heap.size, 3, none⟩ = some (.int .i32 o.c.r) ∧ W.cell? ⟨w.heap.size, 4, none⟩ = some (.int .i64 o.c.fk) ∧ W.cell? ⟨w.heap.size, 5, none⟩ = some (.int .i64 o.c.fn) ∧ W.cell? ⟨w.heap.size, 6, none⟩ = some (.int .i64 o.c.bk) ∧ W.cell? ⟨w.heap.size, 7, none⟩ = some (.int .i64 o.c.bn) ∧ W.cell? ⟨w.heap.size, 8, none⟩ = some (.int .i64 o.c.fl)) ∧ W.cell? ⟨w.heap.size + 1, 0, none⟩ = some (.int .i64 o.c.bk) ∧ W.cell? ⟨w.heap.size + 1, 1, none⟩ = some (.int .i64 o.c.bn)) := Lib.hid fun W hW => by
    have q0 := (hW.block w.heap.size (by omega)).trans hx0'
    have q1 := (hW.block (w.heap.size + 1) (by omega)).trans hx1
    exact ⟨⟨cell_of_row _ _ 0 _ _ _ q0, cell_of_row _ _ 1 _ _ _ q0, cell_of_row _ _ 2 _ _ _ q0, cell_of_row _ _ 3 _ _ _ q0, cell_of_row _ _ 4 _ _ _ q0, cell_of_row _ _ 5 _ _ _ q0, cell_of_row _ _ 6 _ _ _ q0, cell_of_row _ _ 7 _ _ _ q0, cell_of_row _ _ 8 _ _ _ q0⟩, cell_of_row _ _ 0 _ _ _ q1, cell_of_row _ _ 1 _ _ _ q1⟩
  have HW1 := Lib.hid hw1
  clear h hn hl hT hs hA hL hw1 hx0 hx1 hx0' hs0 hs1 hk
  generalize opRow l o = L at *
  go_enter Tryd.func21, Tryd.ntmps21
  go_wp2_with (first
    | (go_at_call 19; (with_reducible refine (HA.out _ HW1.out).mono ?_); rintro e w2 ⟨v1, rfl, ho, hb⟩; obtain ⟨⟨x0, x1, x2, x3, x4, x5, x6, x7, x8⟩, y0, y1⟩ := HX.out _ hb; have HO := Lib.hid ho; have HB := Lib.hid (bel0 HW1.out hb); clear ho hb)
    | (go_at_call 46; (with_reducible refine (HC.out _ HB.out).mono ?_); rintro e w3 ⟨v2, rfl, ho3, hb3⟩; have HO3 := Lib.hid ho3; have HOP := Lib.hid (HO.out.past hb3); have HB3 := Lib.hid (bel0 HB.out hb3); clear ho3 hb3))
  go_ret2
  exact ⟨⟨v1, v2, rfl, HOP.out, HO3.out⟩, HB3.out⟩
set_option maxRecDepth 100000 in
set_option maxHeartbeats 4000000 in
theorem does_6 (A : Option Addr) (l : List CC) (n c : Nat) (o : OP) (h0 : o.k ≠ 0) (h1 : o.k ≠ 1) (h2 : o.k ≠ 2) (h3 : o.k ≠ 3) (h4 : o.k ≠ 4) (h5 : o.k ≠ 5) (hn : n = l.length) (hl : n ≤ 1000) (hs : ∀ x, x < l.length → (Ac (mendL l) x).m.size ≤ 4611686018427387904) (w : World) (hT : WT w) (h : RC w w.heap.size A l) :
    Calls Tryd.prog 21 #[.slice A n c, .agg #[.int .i64 o.k, .int .i64 o.x, .int .i64 o.n, .int .i32 o.c.r, .int .i64 o.c.fk, .int .i64 o.c.fn, .int .i64 o.c.bk, .int .i64 o.c.bn, .int .i64 o.c.fl]] w fun e w' => Both w.heap.size (opRow l o) e w' ∧ Below w.heap.size w w' := by
  have hA := fun W (hW : Below w.heap.size w W) => alone_any A l n c o hn hl hs W (hT.below hW) (h.past hW)
  have k0 : (o.k == 0) = false := by simpa using h0
  have k1 : (o.k == 1) = false := by simpa using h1
  have k2 : (o.k == 2) = false := by simpa using h2
  have k3 : (o.k == 3) = false := by simpa using h3
  have k4 : (o.k == 4) = false := by simpa using h4
  have k5 : (o.k == 5) = false := by simpa using h5
  have hL : opRow l o = mendL l := by unfold opRow; rw [if_neg h0]; rw [if_neg h1]; rw [if_neg h2]; rw [if_neg h3]; rw [if_neg h4]; rw [if_neg h5]
  have HC : Hid (∀ W, Below w.heap.size w W → Calls Tryd.prog 13 #[.slice A n c] W fun e w' => ∃ v, e = .returned v ∧ OC w.heap.size w' v (opRow l o) ∧ Below W.heap.size W w') := Lib.hid fun W hW => by
    rw [hL]
    exact (refMend_any A l n c hn hl W (h.past hW)).mono fun e w' ⟨v, he, ho, hb⟩ => ⟨v, he, ho.lower hW.size, hb⟩
  have HA : Hid (∀ W, Below w.heap.size w W → Calls Tryd.prog 19 #[.slice A n c, .agg #[.int .i64 o.k, .int .i64 o.x, .int .i64 o.n, .int .i32 o.c.r, .int .i64 o.c.fk, .int .i64 o.c.fn, .int .i64 o.c.bk, .int .i64 o.c.bn, .int .i64 o.c.fl]] W fun e w' => ∃ v, e = .returned v ∧ OC w.heap.size w' v (opRow l o) ∧ Below W.heap.size W w') := Lib.hid fun W hW =>
    (hA W hW).mono fun e w' ⟨v, he, ho, hb⟩ => ⟨v, he, ho.lower hW.size, hb⟩
  have hw1 : Below w.heap.size w ((w.alloc (.cells #[.int .i64 o.k, .int .i64 o.x, .int .i64 o.n, .int .i32 o.c.r, .int .i64 o.c.fk, .int .i64 o.c.fn, .int .i64 o.c.bk, .int .i64 o.c.bn, .int .i64 o.c.fl] 37)).alloc (.cells #[.int .i64 o.c.bk, .int .i64 o.c.bn] 32)) := belA (belA (Below.refl _ _) _) _
  have hx0 := heap_alloc_new w (.cells #[.int .i64 o.k, .int .i64 o.x, .int .i64 o.n, .int .i32 o.c.r, .int .i64 o.c.fk, .int .i64 o.c.fn, .int .i64 o.c.bk, .int .i64 o.c.bn, .int .i64 o.c.fl] 37)
  have hx1 := heap_alloc_new (w.alloc (.cells #[.int .i64 o.k, .int .i64 o.x, .int .i64 o.n, .int .i32 o.c.r, .int .i64 o.c.fk, .int .i64 o.c.fn, .int .i64 o.c.bk, .int .i64 o.c.bn, .int .i64 o.c.fl] 37)) (.cells #[.int .i64 o.c.bk, .int .i64 o.c.bn] 32)
  have hs0 : (w.alloc (.cells #[.int .i64 o.k, .int .i64 o.x, .int .i64 o.n, .int .i32 o.c.r, .int .i64 o.c.fk, .int .i64 o.c.fn, .int .i64 o.c.bk, .int .i64 o.c.bn, .int .i64 o.c.fl] 37)).heap.size = w.heap.size + 1 := by simp
  have hs1 : ((w.alloc (.cells #[.int .i64 o.k, .int .i64 o.x, .int .i64 o.n, .int .i32 o.c.r, .int .i64 o.c.fk, .int .i64 o.c.fn, .int .i64 o.c.bk, .int .i64 o.c.bn, .int .i64 o.c.fl] 37)).alloc (.cells #[.int .i64 o.c.bk, .int .i64 o.c.bn] 32)).heap.size = w.heap.size + 2 := by simp
  have hx0' := ((belA (Below.refl (w.alloc (.cells #[.int .i64 o.k, .int .i64 o.x, .int .i64 o.n, .int .i32 o.c.r, .int .i64 o.c.fk, .int .i64 o.c.fn, .int .i64 o.c.bk, .int .i64 o.c.bn, .int .i64 o.c.fl] 37)).heap.size _) (.cells #[.int .i64 o.c.bk, .int .i64 o.c.bn] 32)).block w.heap.size (by omega)).trans hx0
  rw [hs0] at hx1
  have HX : Hid (∀ W, Below ((w.alloc (.cells #[.int .i64 o.k, .int .i64 o.x, .int .i64 o.n, .int .i32 o.c.r, .int .i64 o.c.fk, .int .i64 o.c.fn, .int .i64 o.c.bk, .int .i64 o.c.bn, .int .i64 o.c.fl] 37)).alloc (.cells #[.int .i64 o.c.bk, .int .i64 o.c.bn] 32)).heap.size ((w.alloc (.cells #[.int .i64 o.k, .int .i64 o.x, .int .i64 o.n, .int .i32 o.c.r, .int .i64 o.c.fk, .int .i64 o.c.fn, .int .i64 o.c.bk, .int .i64 o.c.bn, .int .i64 o.c.fl] 37)).alloc (.cells #[.int .i64 o.c.bk, .int .i64 o.c.bn] 32)) W → (W.cell? ⟨w.heap.size, 0, none⟩ = some (.int .i64 o.k) ∧ W.cell? ⟨w.heap.size, 1, none⟩ = some (.int .i64 o.x) ∧ W.cell? ⟨w.heap.size, 2, none⟩ = some (.int .i64 o.n) ∧ W.cell? ⟨w.heap.size, 3, none⟩ = some (.int .i32 o.c.r) ∧ W.cell? ⟨w.heap.size, 4, none⟩ = some (.int .i64 o.c.fk) ∧ W.cell? ⟨w.heap.size, 5, none⟩ = some (.int .i64 o.c.fn) ∧ W.cell? ⟨w.heap.size, 6, none⟩ = some (.int .i64 o.c.bk) ∧ W.cell? ⟨w.heap.size, 7, none⟩ = some (.int .i64 o.c.bn) ∧ W.cell? ⟨w.heap.size, 8, none⟩ = some (.int .i64 o.c.fl)) ∧ W.cell? ⟨w.heap.size + 1, 0, none⟩ = some (.int .i64 o.c.bk) ∧ W.cell? ⟨w.heap.size + 1, 1, none⟩ = some (.int .i64 o.c.bn)) := Lib.hid fun W hW => by
    have q0 := (hW.block w.heap.size (by omega)).trans hx0'
    have q1 := (hW.block (w.heap.size + 1) (by omega)).trans hx1
    exact ⟨⟨cell_of_row _ _ 0 _ _ _ q0, cell_of_row _ _ 1 _ _ _ q0, cell_of_row _ _ 2 _ _ _ q0, cell_of_row _ _ 3 _ _ _ q0, cell_of_row _ _ 4 _ _ _ q0, cell_of_row _ _ 5 _ _ _ q0, cell_of_row _ _ 6 _ _ _ q0, cell_of_row _ _ 7 _ _ _ q0, cell_of_row _ _ 8 _ _ _ q0⟩, cell_of_row _ _ 0 _ _ _ q1, cell_of_row _ _ 1 _ _ _ q1⟩
  have HW1 := Lib.hid hw1
  clear h hn hl hT hs hA hL hw1 hx0 hx1 hx0' hs0 hs1 h0 h1 h2 h3 h4 h5
  generalize opRow l o = L at *
  go_enter Tryd.func21, Tryd.ntmps21
  go_wp2_with (first
    | (go_at_call 19; (with_reducible refine (HA.out _ HW1.out).mono ?_); rintro e w2 ⟨v1, rfl, ho, hb⟩; obtain ⟨⟨x0, x1, x2, x3, x4, x5, x6, x7, x8⟩, y0, y1⟩ := HX.out _ hb; have HO := Lib.hid ho; have HB := Lib.hid (bel0 HW1.out hb); clear ho hb)
    | (go_at_call 13; (with_reducible refine (HC.out _ HB.out).mono ?_); rintro e w3 ⟨v2, rfl, ho3, hb3⟩; have HO3 := Lib.hid ho3; have HOP := Lib.hid (HO.out.past hb3); have HB3 := Lib.hid (bel0 HB.out hb3); clear ho3 hb3))
  go_ret2
  exact ⟨⟨v1, v2, rfl, HOP.out, HO3.out⟩, HB3.out⟩
theorem does_any (A : Option Addr) (l : List CC) (n c : Nat) (o : OP) (hn : n = l.length) (hl : n ≤ 1000) (hs : ∀ x, x < l.length → (Ac (mendL l) x).m.size ≤ 4611686018427387904) (w : World) (hT : WT w) (h : RC w w.heap.size A l) :
    Calls Tryd.prog 21 #[.slice A n c, .agg #[.int .i64 o.k, .int .i64 o.x, .int .i64 o.n, .int .i32 o.c.r, .int .i64 o.c.fk, .int .i64 o.c.fn, .int .i64 o.c.bk, .int .i64 o.c.bn, .int .i64 o.c.fl]] w fun e w' => Both w.heap.size (opRow l o) e w' ∧ Below w.heap.size w w' := by
  by_cases e0 : o.k = 0
  · rw [e0]
    exact does_0 A l n c o e0 hn hl hs w hT h
  by_cases e1 : o.k = 1
  · rw [e1]
    exact does_1 A l n c o e1 hn hl hs w hT h
  by_cases e2 : o.k = 2
  · rw [e2]
    exact does_2 A l n c o e2 hn hl hs w hT h
  by_cases e3 : o.k = 3
  · rw [e3]
    exact does_3 A l n c o e3 hn hl hs w hT h
  by_cases e4 : o.k = 4
  · rw [e4]
    exact does_4 A l n c o e4 hn hl hs w hT h
  by_cases e5 : o.k = 5
  · rw [e5]
    exact does_5 A l n c o e5 hn hl hs w hT h
  exact does_6 A l n c o e0 e1 e2 e3 e4 e5 hn hl hs w hT h
end Go.Proofs.YtoiekhjmfoodiaaDoor

namespace Go.Proofs.YtoiekhjmfoodiaaDoor
open Go.RowKit

/-- No cell has more than 32 bytes of marks. -/
def fm (L : List CC) : Prop := ∀ k, (Ac L k).m.size ≤ 32
theorem Ac_out (L : List CC) (k : Nat) (h : L.length ≤ k) : Ac L k = CC.zero := by
  unfold Ac
  rw [List.getElem?_eq_none h]
  rfl
theorem fm_mend {L : List CC} (h : fm L) : fm (mendL L) := fun k => by
  by_cases hk : k < L.length
  · exact mend_m L k 32 (fun i _ => h i) hk
  · rw [Ac_out _ _ (by rw [mendL_len]; omega)]
    exact Nat.zero_le _
theorem fm_set {L : List CC} (h : fm L) (i : Nat) (y : CC) (hy : y.m.size ≤ 32) : fm (L.set i y) := fun k => by
  by_cases hi : i < L.length
  · rw [Ac_set _ _ _ _ hi]
    split
    · exact hy
    · exact h k
  · rw [List.set_eq_of_length_le (by omega)]
    exact h k
theorem fm_blankK {L : List CC} (h : fm L) (s : Nat) (x : CC) (hx : x.m.size ≤ 32) : ∀ k, fm (blankK L s x k)
  | 0 => h
  | k + 1 => fm_set (fm_blankK h s x hx k) _ _ hx
theorem fm_map (n : Nat) (f : Nat → CC) (h : ∀ i, (f i).m.size ≤ 32) : fm ((List.range n).map f) := fun k => by
  by_cases hk : k < n
  · rw [Ac_map _ _ _ hk]
    exact h k
  · rw [Ac_out _ _ (by simp; omega)]
    exact Nat.zero_le _
theorem fm_opRow {L : List CC} (h : fm L) (o : OP) : fm (opRow L o) := by
  have hm := fm_mend h
  unfold opRow
  split
  · unfold putRow
    split
    · refine fm_mend ?_
      split
      · exact fm_set hm _ _ (Nat.zero_le _)
      · split
        · exact fm_set (fm_set hm _ _ (Nat.zero_le _)) _ _ (Nat.zero_le _)
        · exact hm
    · exact hm
  · split
    · unfold markRow
      split
      · refine fm_mend ?_
        unfold markL
        split
        · rename_i hc
          have h1 : (moreC (Ac (mendL L) o.x.toNat) (put7 o.c.r)).m.size ≤ 32 := by
            show ((Ac (mendL L) o.x.toNat).m ++ put7 o.c.r).size ≤ 32
            rw [ByteArray.size_append]
            exact hc.2.2
          split
          · exact fm_set (fm_set hm _ _ h1) _ _ h1
          · split
            · exact fm_set (fm_set hm _ _ h1) _ _ h1
            · exact fm_set hm _ _ h1
        · exact hm
      · exact hm
    · split
      · unfold eraseZ eraseL
        split
        · exact fm_mend (fm_blankK hm _ _ (Nat.zero_le _) _)
        · exact hm
      · split
        · rw [ins_same]
          refine fm_mend ?_
          unfold insT
          split
          · refine fm_map _ _ fun i => ?_
            split
            · exact hm i
            · split
              · exact Nat.zero_le _
              · exact hm _
          · exact hm
        · split
          · rw [del_same]
            refine fm_mend ?_
            unfold delT
            split
            · refine fm_map _ _ fun i => ?_
              split
              · exact hm i
              · split
                · exact hm _
                · exact Nat.zero_le _
            · exact hm
          · split
            · unfold closeRow
              split
              · exact fm_mend (fm_set hm _ _ (Nat.zero_le _))
              · exact hm
            · exact hm
theorem fm_few {L : List CC} (h : fm L) : fewMarks L := fun k _ => by
  have := put7_size (Ac L k).r
  have := h k
  omega
/-- A row of n cells of one's own. -/
structure PL (B n : Nat) (W : World) (v : Value) (L : List CC) : Prop where
  oc : OC B W v L
  len : L.length = n
  few : fm L
theorem PL.past {B n : Nat} {W W' : World} {v : Value} {L : List CC} (h : PL B n W v L) (hb : Below W.heap.size W W') : PL B n W' v L := ⟨h.oc.past hb, h.len, h.few⟩
theorem textPL (B n : Nat) (hn : n ≤ 1000) (W : World) (v : Value) (L : List CC) (h : PL B n W v L) : Calls Tryd.prog 16 #[v] W fun e w' => e = .returned (.string (txtB L (usedL L))) ∧ Below W.heap.size W w' := by
  have hl := h.len
  rcases h.oc with ⟨rfl, A, c, rfl⟩ | ⟨g, c, rfl, hg, hc, hm⟩
  · exact textRow_none A c W
  · by_cases h0 : 0 < L.length
    · exact textRow_any _ L _ c rfl h0 (by omega) hc (fm_few h.few) W hm.rc
    · have e : L = [] := List.eq_nil_of_length_eq_zero (by omega)
      subst e
      exact textRow_none _ c W
theorem refTextPL (B n : Nat) (hn : n ≤ 1000) (W : World) (v : Value) (L : List CC) (h : PL B n W v L) : Calls Tryd.prog 17 #[v] W fun e w' => e = .returned (.string (txtB L (usedL L))) ∧ Below W.heap.size W w' := by
  have hl := h.len
  obtain ⟨A, c, rfl, hr⟩ := h.oc.form
  exact refText_any A L _ c rfl (by omega) (fm_few h.few) W hr
theorem usedPL (B n : Nat) (hn : n ≤ 1000) (W : World) (v : Value) (L : List CC) (h : PL B n W v L) : Calls Tryd.prog 14 #[v] W fun e w' => e = .returned (.int .i64 (usedL L)) ∧ Below W.heap.size W w' := by
  have hl := h.len
  obtain ⟨A, c, rfl, hr⟩ := h.oc.form
  exact used_any A L _ c rfl (by omega) W hr
theorem refUsedPL (B n : Nat) (hn : n ≤ 1000) (W : World) (v : Value) (L : List CC) (h : PL B n W v L) : Calls Tryd.prog 15 #[v] W fun e w' => e = .returned (.int .i64 (usedL L)) ∧ Below W.heap.size W w' := by
  have hl := h.len
  obtain ⟨A, c, rfl, hr⟩ := h.oc.form
  exact refUsed_any A L _ c rfl (by omega) W hr
theorem samePL (B n : Nat) (hn : n ≤ 1000) (W : World) (v v' : Value) (L : List CC) (h : PL B n W v L) (h' : PL B n W v' L) : Calls Tryd.prog 11 #[v, v'] W fun e w' => e = .returned (.bool true) ∧ Below W.heap.size W w' := by
  have hl := h.len
  obtain ⟨A, c, rfl, hr⟩ := h.oc.form
  obtain ⟨A', c', rfl, hr'⟩ := h'.oc.form
  have h1 := same7C_any A A' L L _ _ c c' rfl rfl (by omega) W hr hr'
  rwa [sameC_self] at h1
theorem doesPL (B n : Nat) (hn : n ≤ 1000) (o : OP) (w W : World) (hT : WT w) (hW : Below w.heap.size w W) (hB : B ≤ W.heap.size) (v : Value) (L : List CC) (h : PL B n W v L) : Calls Tryd.prog 21 #[v, .agg #[.int .i64 o.k, .int .i64 o.x, .int .i64 o.n, .int .i32 o.c.r, .int .i64 o.c.fk, .int .i64 o.c.fn, .int .i64 o.c.bk, .int .i64 o.c.bn, .int .i64 o.c.fl]] W fun e w' => (∃ v1 v2, e = .returned (.tuple #[v1, v2]) ∧ PL B n w' v1 (opRow L o) ∧ PL B n w' v2 (opRow L o)) ∧ Below W.heap.size W w' := by
  have hl := h.len
  obtain ⟨A, c, rfl, hr⟩ := h.oc.form
  exact (does_any A L _ c o rfl (by omega) (fun x _ => Nat.le_trans (fm_mend h.few x) (by decide)) W (hT.below hW) hr).mono fun e w' ⟨⟨v1, v2, he, h1, h2⟩, hb⟩ =>
    ⟨⟨v1, v2, he, ⟨h1.lower hB, by rw [opRow_len, hl], fm_opRow h.few o⟩, ⟨h2.lower hB, by rw [opRow_len, hl], fm_opRow h.few o⟩⟩, hb⟩
set_option maxRecDepth 100000 in
set_option maxHeartbeats 4000000 in
theorem plays_long (z ck cn : Int) (Bd : Option Addr) (m c' : Nat) (h : 40 < m) (w : World) (hT : WT w) : Calls Tryd.prog 5 #[.int .u8 z, .agg #[.int .i64 ck, .int .i64 cn], .slice Bd m c'] w fun e w' => e = .returned (.bool true) ∧ Below w.heap.size w w' := by
  have HA := Lib.hid (awake_any (w.alloc (.cells #[.int .i64 ck, .int .i64 cn] 32)) (hT.below (belA (Below.refl _ _) _)))
  have hd : decide ((40 : Int) < (m : Int)) = true := decide_eq_true (by omega)
  have hd' : decide (40 < m) = true := decide_eq_true h
  clear h hT
  go_enter Tryd.func5, Tryd.ntmps5
  go_wp2_with (go_at_call 8; (with_reducible refine (HA.out).mono ?_); rintro e w5 ⟨rfl, hb⟩; have HB5 := Lib.hid hb; clear hb)
  go_ret
  exact ⟨rfl, bel1 (Below.refl _ _) HB5.out⟩
set_option maxRecDepth 100000 in
set_option maxHeartbeats 4000000 in
theorem plays_law (z ck cn : Int) (hz0 : 0 ≤ z) (hz1 : z < 256) (Bd : Option Addr) (os : List OP) (m c' : Nat) (hm : m = os.length) (w : World) (hT : WT w) (ho : RO w Bd os) : Calls Tryd.prog 5 #[.int .u8 z, .agg #[.int .i64 ck, .int .i64 cn], .slice Bd m c'] w fun e w' => e = .returned (.bool true) ∧ Below w.heap.size w w' := by
  by_cases hm4 : 40 < m
  · exact plays_long z ck cn Bd m c' hm4 w hT
  obtain ⟨n, rfl⟩ : ∃ n : Nat, z = n := ⟨z.toNat, by omega⟩
  have hn : n ≤ 1000 := by omega
  have hb0 := belA (Below.refl w.heap.size w) (.cells #[.int .i64 ck, .int .i64 cn] 32)
  have hx := heap_alloc_new w (.cells #[.int .i64 ck, .int .i64 cn] 32)
  have hs1 : (w.alloc (.cells #[.int .i64 ck, .int .i64 cn] 32)).heap.size = w.heap.size + 1 := by simp
  have HPB : Hid (∀ W v, OC w.heap.size W v (List.replicate n (blankC ck cn)) → PL w.heap.size n W v (List.replicate n (blankC ck cn))) := Lib.hid fun W v hO => ⟨hO, by simp, fun k => by
    by_cases hk : k < n
    · unfold Ac
      rw [List.getElem?_replicate, if_pos hk]
      exact Nat.zero_le _
    · rw [Ac_out _ _ (by simp; omega)]
      exact Nat.zero_le _⟩
  have H1 : Hid (∀ W, w.heap.size ≤ W.heap.size → Calls Tryd.prog 18 #[.int .i64 n, .agg #[.int .i64 ck, .int .i64 cn]] W fun e w' => (∃ v, e = .returned v ∧ ∀ W2, Below w'.heap.size w' W2 → PL w.heap.size n W2 v (List.replicate n (blankC ck cn))) ∧ Below W.heap.size W w') := Lib.hid fun W hW => (blanks_any n ck cn n (by omega) W).mono fun e w' ⟨v, he, ho, hb⟩ => ⟨⟨v, he, fun W2 h2 => HPB.out _ _ ((ho.lower hW).past h2)⟩, hb⟩
  have H2 : Hid (∀ W, w.heap.size ≤ W.heap.size → Calls Tryd.prog 20 #[.int .i64 n, .agg #[.int .i64 ck, .int .i64 cn]] W fun e w' => (∃ v, e = .returned v ∧ ∀ W2, Below w'.heap.size w' W2 → PL w.heap.size n W2 v (List.replicate n (blankC ck cn))) ∧ Below W.heap.size W w') := Lib.hid fun W hW => (refBlanks_any n ck cn n (by omega) W).mono fun e w' ⟨v, he, ho, hb⟩ => ⟨⟨v, he, fun W2 h2 => HPB.out _ _ ((ho.lower hW).past h2)⟩, hb⟩
  have HSM := Lib.hid (samePL w.heap.size n hn)
  have HTX := Lib.hid (textPL w.heap.size n hn)
  have HRT := Lib.hid (refTextPL w.heap.size n hn)
  have HUS := Lib.hid (usedPL w.heap.size n hn)
  have HRU := Lib.hid (refUsedPL w.heap.size n hn)
  have HDO : Hid (∀ (o : OP) W, Below w.heap.size w W → ∀ v L, PL w.heap.size n W v L → Calls Tryd.prog 21 #[v, .agg #[.int .i64 o.k, .int .i64 o.x, .int .i64 o.n, .int .i32 o.c.r, .int .i64 o.c.fk, .int .i64 o.c.fn, .int .i64 o.c.bk, .int .i64 o.c.bn, .int .i64 o.c.fl]] W fun e w' => (∃ v1 v2, e = .returned (.tuple #[v1, v2]) ∧ PL w.heap.size n w' v1 (opRow L o) ∧ PL w.heap.size n w' v2 (opRow L o)) ∧ Below W.heap.size W w') := Lib.hid fun o W hW v L hP => doesPL w.heap.size n hn o w W hT hW hW.size v L hP
  have HAW : Hid (∀ W, Below w.heap.size w W → Calls Tryd.prog 8 #[] W fun e w' => e = .returned (.bool true) ∧ Below W.heap.size W w') := Lib.hid fun W hW => awake_any W (hT.below hW)
  have HRO : Hid (os ≠ [] → ∃ b off, Bd = some ⟨b, off, none⟩ ∧ ∀ W, Below w.heap.size w W → ∀ k, k < os.length → O9 W b (off + k * 9) (Ao os k)) := Lib.hid ho.at
  have HML := Lib.hid hm
  have hd : decide ((40 : Int) < (m : Int)) = false := decide_eq_false (by omega)
  have hd' : decide (40 < m) = false := decide_eq_false (by omega)
  have hn256 : (n : Int) < 256 := hz1
  have hwn : IntKind.i64.wrap (n : Int) = (n : Int) := IntWalk.i64_in _ (by omega)
  have hS : (w.alloc (.cells #[.int .i64 ck, .int .i64 cn] 32)).drew.cell? ⟨w.heap.size, 0, none⟩ = some (.int .i64 ck) ∧ (w.alloc (.cells #[.int .i64 ck, .int .i64 cn] 32)).drew.cell? ⟨w.heap.size, 1, none⟩ = some (.int .i64 cn) ∧ w.heap.size < (w.alloc (.cells #[.int .i64 ck, .int .i64 cn] 32)).drew.heap.size ∧ Below w.heap.size w (w.alloc (.cells #[.int .i64 ck, .int .i64 cn] 32)).drew := ⟨cell_of_row _ _ 0 _ _ _ hx, cell_of_row _ _ 1 _ _ _ hx, by show w.heap.size < (w.alloc (.cells #[.int .i64 ck, .int .i64 cn] 32)).heap.size; omega, hb0.drew⟩
  have HST : Hid (∀ W W', (W.cell? ⟨w.heap.size, 0, none⟩ = some (.int .i64 ck) ∧ W.cell? ⟨w.heap.size, 1, none⟩ = some (.int .i64 cn) ∧ w.heap.size < W.heap.size ∧ Below w.heap.size w W) → Below W.heap.size W W' → (W'.cell? ⟨w.heap.size, 0, none⟩ = some (.int .i64 ck) ∧ W'.cell? ⟨w.heap.size, 1, none⟩ = some (.int .i64 cn) ∧ w.heap.size < W'.heap.size ∧ Below w.heap.size w W')) := Lib.hid fun W W' h hb => ⟨(hb.cell (p := ⟨w.heap.size, 0, none⟩) h.2.2.1).trans h.1, (hb.cell (p := ⟨w.heap.size, 1, none⟩) h.2.2.1).trans h.2.1, Nat.lt_of_lt_of_le h.2.2.1 hb.size, bel0 h.2.2.2 hb⟩
  have hm40 : m ≤ 40 := by omega
  clear hz0 hz1 hb0 hx hs1 ho hT hm hm4
  generalize List.replicate n (blankC ck cn) = LB at *
  go_enter Tryd.func5, Tryd.ntmps5
  go_wp2
  go_region_held3 (fun W => W.cell? ⟨w.heap.size, 0, none⟩ = some (.int .i64 ck) ∧ W.cell? ⟨w.heap.size, 1, none⟩ = some (.int .i64 cn) ∧ w.heap.size < W.heap.size ∧ Below w.heap.size w W)
    (first | exact hS | exact HST.out _ _ (by assumption) hbx | assumption)
    (first
      | (go_at_call 18; (with_reducible refine (H1.out _ (by first | exact Nat.le_of_lt hS.2.2.1 | (have := (by assumption : (_ ∧ _ ∧ _ ∧ _)).2.2.1; omega))).mono ?_); rintro e8 w8 ⟨⟨v8, rfl, hp8⟩, hbx⟩; have hb8 := hbx)
      | (go_at_call 20; (with_reducible refine (H2.out _ (by first | exact Nat.le_of_lt hS.2.2.1 | (have := (by assumption : (_ ∧ _ ∧ _ ∧ _)).2.2.1; omega))).mono ?_); rintro e9 w9 ⟨⟨v9, rfl, hp9⟩, hbx⟩; have hb9 := hbx))
  have HP8 := Lib.hid (hp8 _ hb9)
  have HP9 := Lib.hid (hp9 _ (Below.refl _ _))
  have HBW := Lib.hid ((by assumption : (w9.cell? ⟨w.heap.size, 0, none⟩ = some (.int .i64 ck) ∧ w9.cell? ⟨w.heap.size, 1, none⟩ = some (.int .i64 cn) ∧ w.heap.size < w9.heap.size ∧ Below w.heap.size w w9)).2.2.2)
  clear hp8 hp9 hb8 hb9 hbx hS HST H1 H2 HPB
  go_wp2_with (go_at_call 11; (with_reducible refine (HSM.out _ _ _ _ HP8.out HP9.out).mono ?_); rintro e w10 ⟨rfl, hb10⟩; have HP10 := Lib.hid (HP8.out.past hb10); have HB10 := Lib.hid (bel0 HBW.out hb10); clear hb10)
  clear HP8 HP9 HBW
  go_loopw [7, 9, 10] (fun v i _ wr => ∃ j : Nat, j ≤ m ∧ i = .int .i64 j ∧ Hid (∃ L, PL w.heap.size n wr v L) ∧ Hid (Below w.heap.size w wr)) (fun _ i _ _ => m - (intOf i).toNat)
  case atStart => exact ⟨0, Nat.zero_le _, rfl, Lib.hid ⟨_, HP10.out⟩, HB10⟩
  case round =>
    rename_i v iv xv
    obtain ⟨j, hj, rfl, HP, HB⟩ := hrel
    by_cases hlt : j < m
    · have hne : os ≠ [] := fun e => by have := HML.out; rw [e] at this; simp at this; omega
      obtain ⟨b, off, rfl, hat⟩ := HRO.out hne
      obtain ⟨o0, o1, o2, o3, o4, o5, o6, o7, o8⟩ := hat wr HB.out j (by rw [← HML.out]; exact hlt)
      have hjm : (j : Int) < m := by omega
      obtain ⟨L, hp⟩ := HP.out
      have HDr := Lib.hid (HDO.out (Ao os j) wr HB.out _ L hp)
      clear hat hne hp
      generalize Ao os j = o at *
      generalize opRow L o = L2 at *
      generalize txtB L2 (usedL L2) = tx at *
      generalize usedL L2 = us at *
      go_wp2_with (first
        | (go_at_call 21; (with_reducible refine (HDr.out).mono ?_); rintro e w11 ⟨⟨v1, v2, rfl, hp1, hp2⟩, hb11⟩; have HQ1 := Lib.hid hp1; have HQ2 := Lib.hid hp2; have HB11 := Lib.hid (bel0 HB.out hb11); clear hp1 hp2 hb11)
        | (go_at_call 11; (with_reducible refine (HSM.out _ _ _ _ HQ1.out HQ2.out).mono ?_); rintro e w12 ⟨rfl, hb12⟩; have HQ12 := Lib.hid (HQ1.out.past hb12); have HR12 := Lib.hid (HQ2.out.past hb12); have HB12 := Lib.hid (bel0 HB11.out hb12); clear hb12)
        | (go_at_call 16; (with_reducible refine (HTX.out _ _ _ HQ12.out).mono ?_); rintro e w13 ⟨rfl, hb13⟩; have HQ13 := Lib.hid (HQ12.out.past hb13); have HR13 := Lib.hid (HR12.out.past hb13); have HB13 := Lib.hid (bel0 HB12.out hb13); clear hb13)
        | (go_at_call 17; (with_reducible refine (HRT.out _ _ _ HR13.out).mono ?_); rintro e w14 ⟨rfl, hb14⟩; have HQ14 := Lib.hid (HQ13.out.past hb14); have HR14 := Lib.hid (HR13.out.past hb14); have HB14 := Lib.hid (bel0 HB13.out hb14); clear hb14)
        | (go_at_call 14; (with_reducible refine (HUS.out _ _ _ HQ14.out).mono ?_); rintro e w15 ⟨rfl, hb15⟩; have HQ15 := Lib.hid (HQ14.out.past hb15); have HR15 := Lib.hid (HR14.out.past hb15); have HB15 := Lib.hid (bel0 HB14.out hb15); clear hb15)
        | (go_at_call 15; (with_reducible refine (HRU.out _ _ _ HR15.out).mono ?_); rintro e w16 ⟨rfl, hb16⟩; have HQ16 := Lib.hid (HQ15.out.past hb16); have HB16 := Lib.hid (bel0 HB15.out hb16); clear hb16))
      go_roundw
      case rel => exact ⟨j + 1, hlt, by go_num, Lib.hid ⟨_, HQ16.out⟩, HB16⟩
      case measure => simp [intOf]; omega
    · have HAr := Lib.hid (HAW.out wr HB.out)
      go_wp2_with (go_at_call 8; (with_reducible refine (HAr.out).mono ?_); rintro e w17 ⟨rfl, hb17⟩; have HB17 := Lib.hid (bel0 HB.out hb17); clear hb17)
      go_ret
      exact ⟨rfl, HB17.out⟩
end Go.Proofs.YtoiekhjmfoodiaaDoor
