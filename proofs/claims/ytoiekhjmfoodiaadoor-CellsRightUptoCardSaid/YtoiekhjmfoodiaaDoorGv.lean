/- The walk of cells.Put at a place of the row. -/
import Derived.Test.YtoiekhjmfoodiaaDoorWc
import Derived.Test.YtoiekhjmfoodiaaDoorGs
namespace Go.Proofs.YtoiekhjmfoodiaaDoor
open Go.RowKit

set_option maxRecDepth 100000 in
set_option maxHeartbeats 4000000 in
theorem put_in (A : Option Addr) (l l2 : List CC) (n c x : Nat) (x0 : CC) (hn : n = l.length) (hl : n ≤ 1000) (hx : x < n) (hl2 : l2.length = n) (w : World) (hT : WT w) (h : RC w w.heap.size A l)
    (hd : ∀ W P1 P2 P3 P4, PutC W P1 P2 P3 P4 x0 (ofZ x0.r) x → PutDoes W l l2 n P1 P2 P3 P4) :
    Calls Tryd.prog 22 #[.slice A n c, .int .i64 x, .int .i32 x0.r, .agg #[.int .i64 x0.fk, .int .i64 x0.fn, .int .i64 x0.bk, .int .i64 x0.bn, .int .i64 x0.fl]] w fun e w' => ∃ v, e = .returned v ∧ OC w.heap.size w' v (mendL l2) ∧ Below w.heap.size w w' := by
  have hb1 : Below w.heap.size w (((w.alloc (.cells #[.int .i64 x] 3)).alloc (.cells #[.int .i32 x0.r] 21)).alloc (.cells #[.int .i64 x0.fk, .int .i64 x0.fn, .int .i64 x0.bk, .int .i64 x0.bn, .int .i64 x0.fl] 35)) := belA (belA (belA (Below.refl _ _) _) _) _
  have s0 : (w.alloc (.cells #[.int .i64 x] 3)).heap.size = w.heap.size + 1 := by simp
  have s1 : ((w.alloc (.cells #[.int .i64 x] 3)).alloc (.cells #[.int .i32 x0.r] 21)).heap.size = w.heap.size + 2 := by simp
  have s2 : (((w.alloc (.cells #[.int .i64 x] 3)).alloc (.cells #[.int .i32 x0.r] 21)).alloc (.cells #[.int .i64 x0.fk, .int .i64 x0.fn, .int .i64 x0.bk, .int .i64 x0.bn, .int .i64 x0.fl] 35)).heap.size = w.heap.size + 3 := by simp
  have b1 : (((w.alloc (.cells #[.int .i64 x] 3)).alloc (.cells #[.int .i32 x0.r] 21)).alloc (.cells #[.int .i64 x0.fk, .int .i64 x0.fn, .int .i64 x0.bk, .int .i64 x0.bn, .int .i64 x0.fl] 35)).heap[w.heap.size]? = some (.cells #[.int .i64 x] 3 (0, 0)) :=
    ((belA (belA (Below.refl (w.alloc (.cells #[.int .i64 x] 3)).heap.size _) (.cells #[.int .i32 x0.r] 21)) (.cells #[.int .i64 x0.fk, .int .i64 x0.fn, .int .i64 x0.bk, .int .i64 x0.bn, .int .i64 x0.fl] 35)).block w.heap.size (by omega)).trans (heap_alloc_new w _)
  have b2 : (((w.alloc (.cells #[.int .i64 x] 3)).alloc (.cells #[.int .i32 x0.r] 21)).alloc (.cells #[.int .i64 x0.fk, .int .i64 x0.fn, .int .i64 x0.bk, .int .i64 x0.bn, .int .i64 x0.fl] 35)).heap[w.heap.size + 1]? = some (.cells #[.int .i32 x0.r] 21 (0, 0)) := by
    have n2 := heap_alloc_new (w.alloc (.cells #[.int .i64 x] 3)) (.cells #[.int .i32 x0.r] 21)
    rw [s0] at n2
    exact ((belA (Below.refl ((w.alloc (.cells #[.int .i64 x] 3)).alloc (.cells #[.int .i32 x0.r] 21)).heap.size _) (.cells #[.int .i64 x0.fk, .int .i64 x0.fn, .int .i64 x0.bk, .int .i64 x0.bn, .int .i64 x0.fl] 35)).block (w.heap.size + 1) (by omega)).trans n2
  have b3 : (((w.alloc (.cells #[.int .i64 x] 3)).alloc (.cells #[.int .i32 x0.r] 21)).alloc (.cells #[.int .i64 x0.fk, .int .i64 x0.fn, .int .i64 x0.bk, .int .i64 x0.bn, .int .i64 x0.fl] 35)).heap[w.heap.size + 2]? = some (.cells #[.int .i64 x0.fk, .int .i64 x0.fn, .int .i64 x0.bk, .int .i64 x0.bn, .int .i64 x0.fl] 35 (0, 0)) := by
    have n3 := heap_alloc_new ((w.alloc (.cells #[.int .i64 x] 3)).alloc (.cells #[.int .i32 x0.r] 21)) (.cells #[.int .i64 x0.fk, .int .i64 x0.fn, .int .i64 x0.bk, .int .i64 x0.bn, .int .i64 x0.fl] 35)
    rw [s1] at n3
    exact n3
  have HB0 := Lib.hid hb1
  generalize HW3 : (((w.alloc (.cells #[.int .i64 x] 3)).alloc (.cells #[.int .i32 x0.r] 21)).alloc (.cells #[.int .i64 x0.fk, .int .i64 x0.fn, .int .i64 x0.bk, .int .i64 x0.bn, .int .i64 x0.fl] 35)) = w3 at *
  have HOF : Hid (Calls Tryd.prog 47 #[.int .i32 x0.r] w3 fun e w' => e = .returned (.int .i64 (ofZ x0.r)) ∧ Below w3.heap.size w3 w') := Lib.hid (widthOf_any x0.r w3 (hT.below hb1))
  have HAT : Hid (∀ W, Below w3.heap.size w3 W → Calls Tryd.prog 48 #[.slice A n c, .int .i64 x, .func (.func 49) #[] #[.pointer (some ⟨w.heap.size + 1, 0, none⟩), .pointer (some ⟨w.heap.size + 1 + 1, 0, none⟩), .pointer (some ⟨W.heap.size, 0, none⟩), .pointer (some ⟨w.heap.size, 0, none⟩)]] (W.alloc (.cells #[.int .i64 (ofZ x0.r)] 3)) fun e w' => ∃ v, e = .returned v ∧ OC w.heap.size w' v (mendL l2) ∧ Below w.heap.size w w') := Lib.hid fun W hW => by
    have hWa : Below w3.heap.size w3 (W.alloc (.cells #[.int .i64 (ofZ x0.r)] 3)) := hW.alloc hW.size _
    have hb := bel0 hb1 hWa
    refine (atPut_in A l l2 n c x _ _ _ _ hn hl hx hl2 _ (h.past hb) (hd _ _ _ _ _ ⟨(hWa.block _ (by omega)).trans b2, (hWa.block _ (by omega)).trans b3, heap_alloc_new W _, (hWa.block _ (by omega)).trans b1⟩)).mono fun e w' ⟨v, he, ho, hb'⟩ => ⟨v, he, ho.lower hb.size, bel0 hb hb'⟩
  have HC6 : Hid (w3.cell? ⟨w.heap.size + 1, 0, none⟩ = some (.int .i32 x0.r)) := Lib.hid (cell_of_row _ _ 0 _ _ _ b2)
  have HC5 : Hid (∀ W, Below w3.heap.size w3 W → (W.alloc (.cells #[.int .i64 (ofZ x0.r)] 3)).cell? ⟨w.heap.size, 0, none⟩ = some (.int .i64 x)) := Lib.hid fun W hW => cell_of_row _ _ 0 _ _ _ (((hW.alloc hW.size (.cells #[.int .i64 (ofZ x0.r)] 3)).block _ (by omega)).trans b1)
  have HE := Lib.hid HW3
  clear HW3 hd h hT hb1 hn hl hl2 hx s0 s1 s2 b1 b2 b3
  generalize ofZ x0.r = z at *
  generalize mendL l2 = L at *
  go_enter Tryd.func22, Tryd.ntmps22
  go_wp2_with (first
    | (go_at_call 47; rw [HE.out]; (with_reducible refine (HOF.out).mono ?_); rintro e w4 ⟨rfl, hb4⟩; have HB4 := Lib.hid hb4; have c5 := HC5.out _ hb4; clear hb4)
    | (go_at_call 48; (with_reducible refine (HAT.out _ HB4.out).mono ?_); rintro e w5 ⟨v, rfl, ho, hb⟩; have HO1 := Lib.hid ho; have HB1 := Lib.hid hb; clear ho hb))
  go_ret
  exact ⟨_, rfl, HO1.out, HB1.out⟩
end Go.Proofs.YtoiekhjmfoodiaaDoor
