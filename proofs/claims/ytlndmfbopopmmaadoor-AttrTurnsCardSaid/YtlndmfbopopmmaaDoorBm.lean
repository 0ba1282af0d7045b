/- The walks of the laws AttrRight, AttrKeeps. -/
import Derived.Test.YtlndmfbopopmmaaDoorBl
import Derived.Test.YtlndmfbopopmmaaDoorBa
import Derived.Deep.RegionHeld3
namespace Go.Proofs.YtlndmfbopopmmaaDoor
open Go.RowKit

theorem as_step {w W W' : World} {v0 v1 v2 v3 v4 : Value} (h : (W.cell? ⟨w.heap.size, 0, none⟩ = some v0 ∧ W.cell? ⟨w.heap.size, 1, none⟩ = some v1 ∧ W.cell? ⟨w.heap.size, 2, none⟩ = some v2 ∧ W.cell? ⟨w.heap.size, 3, none⟩ = some v3 ∧ W.cell? ⟨w.heap.size, 4, none⟩ = some v4) ∧ w.heap.size < W.heap.size ∧ Below w.heap.size w W) (hb : Below W.heap.size W W') :
    (W'.cell? ⟨w.heap.size, 0, none⟩ = some v0 ∧ W'.cell? ⟨w.heap.size, 1, none⟩ = some v1 ∧ W'.cell? ⟨w.heap.size, 2, none⟩ = some v2 ∧ W'.cell? ⟨w.heap.size, 3, none⟩ = some v3 ∧ W'.cell? ⟨w.heap.size, 4, none⟩ = some v4) ∧ w.heap.size < W'.heap.size ∧ Below w.heap.size w W' :=
  ⟨⟨(hb.cell (p := ⟨w.heap.size, 0, none⟩) h.2.1).trans h.1.1, (hb.cell (p := ⟨w.heap.size, 1, none⟩) h.2.1).trans h.1.2.1, (hb.cell (p := ⟨w.heap.size, 2, none⟩) h.2.1).trans h.1.2.2.1, (hb.cell (p := ⟨w.heap.size, 3, none⟩) h.2.1).trans h.1.2.2.2.1, (hb.cell (p := ⟨w.heap.size, 4, none⟩) h.2.1).trans h.1.2.2.2.2⟩, Nat.lt_of_lt_of_le h.2.1 hb.size, bel0 h.2.2 hb⟩
theorem as_start (w : World) (v0 v1 v2 v3 v4 : Value) : ((w.alloc (.cells #[v0, v1, v2, v3, v4] 25)).cell? ⟨w.heap.size, 0, none⟩ = some v0 ∧ (w.alloc (.cells #[v0, v1, v2, v3, v4] 25)).cell? ⟨w.heap.size, 1, none⟩ = some v1 ∧ (w.alloc (.cells #[v0, v1, v2, v3, v4] 25)).cell? ⟨w.heap.size, 2, none⟩ = some v2 ∧ (w.alloc (.cells #[v0, v1, v2, v3, v4] 25)).cell? ⟨w.heap.size, 3, none⟩ = some v3 ∧ (w.alloc (.cells #[v0, v1, v2, v3, v4] 25)).cell? ⟨w.heap.size, 4, none⟩ = some v4) ∧ w.heap.size < (w.alloc (.cells #[v0, v1, v2, v3, v4] 25)).heap.size ∧ Below w.heap.size w (w.alloc (.cells #[v0, v1, v2, v3, v4] 25)) := by
  have hb := heap_alloc_new w (.cells #[v0, v1, v2, v3, v4] 25)
  exact ⟨⟨cell_of_row _ _ 0 _ _ _ hb, cell_of_row _ _ 1 _ _ _ hb, cell_of_row _ _ 2 _ _ _ hb, cell_of_row _ _ 3 _ _ _ hb, cell_of_row _ _ 4 _ _ _ hb⟩, by simp, belA (Below.refl _ _) _⟩
theorem as_drew {w W : World} {v0 v1 v2 v3 v4 : Value} (h : (W.cell? ⟨w.heap.size, 0, none⟩ = some v0 ∧ W.cell? ⟨w.heap.size, 1, none⟩ = some v1 ∧ W.cell? ⟨w.heap.size, 2, none⟩ = some v2 ∧ W.cell? ⟨w.heap.size, 3, none⟩ = some v3 ∧ W.cell? ⟨w.heap.size, 4, none⟩ = some v4) ∧ w.heap.size < W.heap.size ∧ Below w.heap.size w W) :
    (W.drew.cell? ⟨w.heap.size, 0, none⟩ = some v0 ∧ W.drew.cell? ⟨w.heap.size, 1, none⟩ = some v1 ∧ W.drew.cell? ⟨w.heap.size, 2, none⟩ = some v2 ∧ W.drew.cell? ⟨w.heap.size, 3, none⟩ = some v3 ∧ W.drew.cell? ⟨w.heap.size, 4, none⟩ = some v4) ∧ w.heap.size < W.drew.heap.size ∧ Below w.heap.size w W.drew := as_step h ((Below.refl W.heap.size W).drew)
theorem as_below {w W : World} {v0 v1 v2 v3 v4 : Value} (h : (W.cell? ⟨w.heap.size, 0, none⟩ = some v0 ∧ W.cell? ⟨w.heap.size, 1, none⟩ = some v1 ∧ W.cell? ⟨w.heap.size, 2, none⟩ = some v2 ∧ W.cell? ⟨w.heap.size, 3, none⟩ = some v3 ∧ W.cell? ⟨w.heap.size, 4, none⟩ = some v4) ∧ w.heap.size < W.heap.size ∧ Below w.heap.size w W) : Below w.heap.size w W := h.2.2

set_option maxHeartbeats 4000000 in
theorem attrRight_law (fk fn bk bn fl : Int) (h0 : -9223372036854775808 ≤ fl) (h63 : fl ≤ 9223372036854775807) (w : World) (hT : TT w) (hT10 : T10 w.heap.size w) :
    Calls Tryd.prog 3 #[.agg #[.int .i64 fk, .int .i64 fn, .int .i64 bk, .int .i64 bn, .int .i64 fl]] w fun e w' => e = .returned (.bool true) ∧ Below w.heap.size w w' := by
  have HA : Hid (∀ W, Below w.heap.size w W → Calls Tryd.prog 10 #[] W fun e w' => e = .returned (.bool true) ∧ Below W.heap.size W w') := Lib.hid fun W hW => awakeA_any W (hT.below hW) (hT10.on hW hW.size)
  have HR := Lib.hid (fun W => right_any fk fn bk bn fl W)
  have HD := Lib.hid (fun W => rightD_any fk fn bk bn fl h63 W)
  rw [← right_same fk fn bk bn fl h0 h63] at HD
  generalize rightB fk fn bk bn fl = r at *
  have hrr : (r == r) = true := by simp
  have hS0 := as_start w (.int .i64 fk) (.int .i64 fn) (.int .i64 bk) (.int .i64 bn) (.int .i64 fl)
  have HS0 := Lib.hid hS0
  have hSd := as_drew hS0
  clear hT hT10 hS0 h0 h63
  go_enter Tryd.func3, Tryd.ntmps3
  go_wp2_with fail
  go_region_held3 (fun W => (W.cell? ⟨w.heap.size, 0, none⟩ = some (.int .i64 fk) ∧ W.cell? ⟨w.heap.size, 1, none⟩ = some (.int .i64 fn) ∧ W.cell? ⟨w.heap.size, 2, none⟩ = some (.int .i64 bk) ∧ W.cell? ⟨w.heap.size, 3, none⟩ = some (.int .i64 bn) ∧ W.cell? ⟨w.heap.size, 4, none⟩ = some (.int .i64 fl)) ∧ w.heap.size < W.heap.size ∧ Below w.heap.size w W)
    (first | exact hSd | exact as_step hSd hb6 | exact as_step (by assumption) hb6)
    (first
      | (go_at_call 8; (with_reducible refine (HR.out _).mono ?_); rintro e6 w6 ⟨rfl, hb6⟩)
      | (go_at_call 9; (with_reducible refine (HD.out _).mono ?_); rintro e6 w6 ⟨rfl, hb6⟩)
      | (go_at_call 10; (with_reducible refine (HA.out _ ?_).mono ?_); (first | exact as_below (by assumption) | exact as_below hSd); rintro e6 w6 ⟨rfl, hb6⟩))
  all_goals
    have HBN := Lib.hid (as_below (by assumption))
    go_wp2
    go_ret
    exact ⟨rfl, HBN.out⟩

end Go.Proofs.YtlndmfbopopmmaaDoor
