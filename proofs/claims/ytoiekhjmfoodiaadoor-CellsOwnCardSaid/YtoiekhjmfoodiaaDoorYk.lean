/- The walk of cells.Mark up to what at does with its closure. -/
import Derived.Test.YtoiekhjmfoodiaaDoorYe
import Derived.Test.YtoiekhjmfoodiaaDoorGw
namespace Go.Proofs.YtoiekhjmfoodiaaDoor
open Go.RowKit

set_option maxRecDepth 100000 in
set_option maxHeartbeats 4000000 in
theorem mark_via (A : Option Addr) (LL : List CC) (n c : Nat) (z r : Int) (w : World)
    (hd : ∀ W P1 P2 P3, Below w.heap.size w W → W.heap[P1]? = some (.cells #[.int .i64 z] 3 (0, 0)) → W.heap[P2]? = some (.cells #[.int .i32 r] 21 (0, 0)) → W.heap[P3]? = some (.cells #[.string (put7 r)] 9 (0, 0)) →
      Calls Tryd.prog 48 #[.slice A n c, .int .i64 z, .func (.func 63) #[] #[.pointer (some ⟨P1, 0, none⟩), .pointer (some ⟨P2, 0, none⟩), .pointer (some ⟨P3, 0, none⟩)]] W fun e w' => ∃ v, e = .returned v ∧ OC W.heap.size w' v LL ∧ Below W.heap.size W w') :
    Calls Tryd.prog 36 #[.slice A n c, .int .i64 z, .int .i32 r] w fun e w' => ∃ v, e = .returned v ∧ OC w.heap.size w' v LL ∧ Below w.heap.size w w' := by
  have hb1 : Below w.heap.size w ((w.alloc (.cells #[.int .i64 z] 3)).alloc (.cells #[.int .i32 r] 21)) := belA (belA (Below.refl _ _) _) _
  have s0 : (w.alloc (.cells #[.int .i64 z] 3)).heap.size = w.heap.size + 1 := by simp
  have s1 : ((w.alloc (.cells #[.int .i64 z] 3)).alloc (.cells #[.int .i32 r] 21)).heap.size = w.heap.size + 2 := by simp
  have b1 : ((w.alloc (.cells #[.int .i64 z] 3)).alloc (.cells #[.int .i32 r] 21)).heap[w.heap.size]? = some (.cells #[.int .i64 z] 3 (0, 0)) :=
    ((belA (Below.refl (w.alloc (.cells #[.int .i64 z] 3)).heap.size _) (.cells #[.int .i32 r] 21)).block w.heap.size (by omega)).trans (heap_alloc_new w _)
  have b2 : ((w.alloc (.cells #[.int .i64 z] 3)).alloc (.cells #[.int .i32 r] 21)).heap[w.heap.size + 1]? = some (.cells #[.int .i32 r] 21 (0, 0)) := by
    have n2 := heap_alloc_new (w.alloc (.cells #[.int .i64 z] 3)) (.cells #[.int .i32 r] 21)
    rw [s0] at n2
    exact n2
  generalize HW3 : ((w.alloc (.cells #[.int .i64 z] 3)).alloc (.cells #[.int .i32 r] 21)) = w3 at *
  have HOF : Hid (Calls Tryd.prog 61 #[.int .i32 r] w3 fun e w' => e = .returned (.string (put7 r)) ∧ w3 = w') := Lib.hid (put7_any r w3)
  have HAT : Hid (Calls Tryd.prog 48 #[.slice A n c, .int .i64 z, .func (.func 63) #[] #[.pointer (some ⟨w.heap.size, 0, none⟩), .pointer (some ⟨w.heap.size + 1, 0, none⟩), .pointer (some ⟨w3.heap.size, 0, none⟩)]] (w3.alloc (.cells #[.string (put7 r)] 9)) fun e w' => ∃ v, e = .returned v ∧ OC w.heap.size w' v LL ∧ Below w.heap.size w w') := Lib.hid (by
    have hWa : Below w3.heap.size w3 (w3.alloc (.cells #[.string (put7 r)] 9)) := belA (Below.refl _ _) _
    have hb := bel0 hb1 hWa
    exact (hd _ _ _ _ hb ((hWa.block _ (by omega)).trans b1) ((hWa.block _ (by omega)).trans b2) (heap_alloc_new w3 _)).mono fun e w' ⟨v, he, ho, hb'⟩ => ⟨v, he, ho.lower hb.size, bel0 hb hb'⟩)
  have HC6 : Hid (w3.cell? ⟨w.heap.size + 1, 0, none⟩ = some (.int .i32 r)) := Lib.hid (cell_of_row _ _ 0 _ _ _ b2)
  have HC5 : Hid ((w3.alloc (.cells #[.string (put7 r)] 9)).cell? ⟨w.heap.size, 0, none⟩ = some (.int .i64 z)) := Lib.hid (cell_of_row _ _ 0 _ _ _ (((belA (Below.refl w3.heap.size w3) (.cells #[.string (put7 r)] 9)).block _ (by omega)).trans b1))
  have HE := Lib.hid HW3
  clear HW3 hd hb1 s0 s1 b1 b2
  generalize put7 r = pr at *
  go_enter Tryd.func36, Tryd.ntmps36
  go_wp2_with (first
    | (go_at_call 61; rw [HE.out]; (with_reducible refine (HOF.out).mono ?_); rintro e w4 ⟨rfl, rfl⟩; have c5 := HC5.out)
    | (go_at_call 48; (with_reducible refine (HAT.out).mono ?_); rintro e w5 ⟨v, rfl, ho, hb⟩; have HO1 := Lib.hid ho; have HB1 := Lib.hid hb; clear ho hb))
  go_ret
  exact ⟨_, rfl, HO1.out, HB1.out⟩
end Go.Proofs.YtoiekhjmfoodiaaDoor
