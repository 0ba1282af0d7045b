/- The laws ShiftBack and ShiftPlaces. -/
import Derived.Test.YtbloekdhafoniaaEh
import Derived.Deep.RegionWith
namespace Go.Proofs.Ytbloekdhafoniaa
open Go.RowKit

/-- A shift lies in block g. -/
def SB (W : World) (g : Nat) (k a n : Int) : Prop := W.heap[g]? = some (.cells #[.int .i64 k, .int .i64 a, .int .i64 n] 25 (0, 0))
theorem SB.new (W : World) (k a n : Int) : SB (W.alloc (.cells #[.int .i64 k, .int .i64 a, .int .i64 n] 25)) W.heap.size k a n := heap_alloc_new W _
theorem SB.lt {W : World} {g : Nat} {k a n : Int} (h : SB W g k a n) : g < W.heap.size := (Array.getElem?_eq_some_iff.1 h).1
theorem SB.c0 {W : World} {g : Nat} {k a n : Int} (h : SB W g k a n) : W.cell? ⟨g, 0, none⟩ = some (.int .i64 k) := cell_of_row _ _ 0 _ _ _ h
theorem SB.c1 {W : World} {g : Nat} {k a n : Int} (h : SB W g k a n) : W.cell? ⟨g, 1, none⟩ = some (.int .i64 a) := cell_of_row _ _ 1 _ _ _ h
theorem SB.c2 {W : World} {g : Nat} {k a n : Int} (h : SB W g k a n) : W.cell? ⟨g, 2, none⟩ = some (.int .i64 n) := cell_of_row _ _ 2 _ _ _ h
theorem SB.past {W W' : World} {g : Nat} {k a n : Int} (h : SB W g k a n) (hb : Below W.heap.size W W') : SB W' g k a n := keep hb h
theorem SB.alloc {W : World} {g : Nat} {k a n : Int} (h : SB W g k a n) (o : Obj) : SB (W.alloc o) g k a n := old1 h

theorem eight_step {wr W W' : World} {a b d : Nat} {v1 v2 v3 v4 v5 v6 v7 v8 : Value} (h : (W.cell? ⟨a, 0, none⟩ = some v1 ∧ W.cell? ⟨a, 1, none⟩ = some v2 ∧ W.cell? ⟨b, 0, none⟩ = some v3 ∧ W.cell? ⟨b, 1, none⟩ = some v4 ∧ W.cell? ⟨b, 2, none⟩ = some v5 ∧ W.cell? ⟨d, 0, none⟩ = some v6 ∧ W.cell? ⟨d, 1, none⟩ = some v7 ∧ W.cell? ⟨d, 2, none⟩ = some v8) ∧ (a < W.heap.size ∧ b < W.heap.size ∧ d < W.heap.size) ∧ Below wr.heap.size wr W) (hb : Below W.heap.size W W') :
    (W'.cell? ⟨a, 0, none⟩ = some v1 ∧ W'.cell? ⟨a, 1, none⟩ = some v2 ∧ W'.cell? ⟨b, 0, none⟩ = some v3 ∧ W'.cell? ⟨b, 1, none⟩ = some v4 ∧ W'.cell? ⟨b, 2, none⟩ = some v5 ∧ W'.cell? ⟨d, 0, none⟩ = some v6 ∧ W'.cell? ⟨d, 1, none⟩ = some v7 ∧ W'.cell? ⟨d, 2, none⟩ = some v8) ∧ (a < W'.heap.size ∧ b < W'.heap.size ∧ d < W'.heap.size) ∧ Below wr.heap.size wr W' := by
  obtain ⟨⟨e1, e2, e3, e4, e5, e6, e7, e8⟩, ⟨l1, l2, l3⟩, hB⟩ := h
  have hs := hb.size
  exact ⟨⟨(hb.cell (p := ⟨a, 0, none⟩) l1).trans e1, (hb.cell (p := ⟨a, 1, none⟩) l1).trans e2, (hb.cell (p := ⟨b, 0, none⟩) l2).trans e3, (hb.cell (p := ⟨b, 1, none⟩) l2).trans e4, (hb.cell (p := ⟨b, 2, none⟩) l2).trans e5, (hb.cell (p := ⟨d, 0, none⟩) l3).trans e6, (hb.cell (p := ⟨d, 1, none⟩) l3).trans e7, (hb.cell (p := ⟨d, 2, none⟩) l3).trans e8⟩, ⟨by omega, by omega, by omega⟩, bel0 hB hb⟩
theorem eight_below {wr W : World} {a b d : Nat} {v1 v2 v3 v4 v5 v6 v7 v8 : Value} (h : (W.cell? ⟨a, 0, none⟩ = some v1 ∧ W.cell? ⟨a, 1, none⟩ = some v2 ∧ W.cell? ⟨b, 0, none⟩ = some v3 ∧ W.cell? ⟨b, 1, none⟩ = some v4 ∧ W.cell? ⟨b, 2, none⟩ = some v5 ∧ W.cell? ⟨d, 0, none⟩ = some v6 ∧ W.cell? ⟨d, 1, none⟩ = some v7 ∧ W.cell? ⟨d, 2, none⟩ = some v8) ∧ (a < W.heap.size ∧ b < W.heap.size ∧ d < W.heap.size) ∧ Below wr.heap.size wr W) : Below wr.heap.size wr W := h.2.2
theorem two_rows {W : World} {g : Nat} {k a n k' a' n' : Int} {t : TypeId} (h : W.heap[g]? = some (.cells #[.int .i64 k, .int .i64 a, .int .i64 n, .int .i64 k', .int .i64 a', .int .i64 n'] t (0, 0))) : RSh W W.heap.size (some ⟨g, 0, none⟩) [(k, a, n), (k', a', n')] := fun _ =>
  ⟨g, 0, rfl, (Array.getElem?_eq_some_iff.1 h).1, fun j hj => by
    match j, hj with
    | 0, _ => exact ⟨cell_of_row _ _ 0 _ _ _ h, cell_of_row _ _ 1 _ _ _ h, cell_of_row _ _ 2 _ _ _ h⟩
    | 1, _ => exact ⟨cell_of_row _ _ 3 _ _ _ h, cell_of_row _ _ 4 _ _ _ h, cell_of_row _ _ 5 _ _ _ h⟩⟩

set_option maxHeartbeats 4000000 in
theorem shiftBack_law (r c a n : Int) (w : World) :
    Calls Try.prog 7 #[.agg #[.int .i64 r, .int .i64 c], .int .i64 a, .int .i64 n] w fun e w' => e = .returned (.bool true) ∧ Below w.heap.size w w' := by
  have HM := Lib.hid (move_any r c 0 a n)
  have HE := Lib.hid (back_eq r c a n)
  obtain ⟨x, hx⟩ : ∃ x, (moveZ r c 0 a n).1 = x := ⟨_, rfl⟩
  obtain ⟨y, hy⟩ : ∃ y, (moveZ r c 0 a n).2 = y := ⟨_, rfl⟩
  rw [hx, hy] at HM
  rw [hx] at HE
  clear hx hy
  cases hnum : num x with
  | false =>
    have HR := Lib.hid (refRight_as x _ hnum)
    clear hnum HE
    go_enter Try.func7, Try.ntmps7
    go_wp2_with (first
      | (go_at_call 12; (with_reducible refine (HM.out _).mono ?_); rintro e w1 ⟨rfl, hb⟩; have HB1 := Lib.hid (bel0 (belA (belA (belA (Below.refl w.heap.size w) _) _) _) hb); clear hb)
      | (go_at_call 11; (with_reducible refine (HR.out _).mono ?_); rintro e w' ⟨rfl, rfl⟩)
      | (go_at_call 16; (with_reducible refine (awake_any _).mono ?_); rintro e w2 ⟨rfl, hb⟩; have HB2 := Lib.hid (bel1 HB1.out hb); clear hb))
    go_ret
    exact ⟨rfl, HB2.out⟩
  | true =>
    have HR := Lib.hid (refRight_as x _ hnum)
    have HEQ := HE.out hnum
    have HALL : Hid (∀ W : World, Calls Try.prog 18 #[.agg #[.int .i64 r, .int .i64 c], .slice (some ⟨W.heap.size, 0, none⟩) 2 2] (W.alloc (.cells #[.int .i64 0, .int .i64 a, .int .i64 n, .int .i64 1, .int .i64 a, .int .i64 n] 25)).drew fun e w' => e = .returned (.agg #[.int .i64 r, .int .i64 c]) ∧ Below W.heap.size W w') := Lib.hid fun W => by
      have h := all_any r c (some ⟨W.heap.size, 0, none⟩) [(0, a, n), (1, a, n)] 2 2 rfl (by omega) (W.alloc (.cells #[.int .i64 0, .int .i64 a, .int .i64 n, .int .i64 1, .int .i64 a, .int .i64 n] 25)).drew (two_rows (heap_alloc_new W _))
      rw [HEQ] at h
      exact h.mono fun e w' ⟨h1, h2⟩ => ⟨h1, bel1 (Below.refl _ _) (belD h2)⟩
    have E1 := fun W => eqPos_self W r c
    have hg := guardPos
    clear hnum HE HEQ
    go_enter Try.func7, Try.ntmps7
    go_wp2_with (first
      | (go_at_call 12; (with_reducible refine (HM.out _).mono ?_); rintro e w1 ⟨rfl, hb⟩; have y0 := keep hb (old1 (old1 (heap_alloc_new w _))); have y1 := keep hb (old1 (heap_alloc_new (w.alloc _) _)); have y2 := keep hb (heap_alloc_new ((w.alloc _).alloc _) _); have HB1 := Lib.hid (bel0 (belA (belA (belA (Below.refl w.heap.size w) _) _) _) hb); clear hb)
      | (go_at_call 11; (with_reducible refine (HR.out _).mono ?_); rintro e w' ⟨rfl, rfl⟩))
    rw [show (w.alloc (.cells #[.int .i64 r, .int .i64 c] 23)).heap.size = w.heap.size + 1 by simp] at y1
    rw [show ((w.alloc (.cells #[.int .i64 r, .int .i64 c] 23)).alloc (.cells #[.int .i64 0, .int .i64 a, .int .i64 n] 25)).heap.size = w.heap.size + 1 + 1 by simp] at y2
    have x0 := old1 (o := .cells #[.int .i64 x, .int .i64 y] 23) y0
    have x1 := old1 (o := .cells #[.int .i64 x, .int .i64 y] 23) y1
    have x2 := old1 (o := .cells #[.int .i64 x, .int .i64 y] 23) y2
    have HB2 := Lib.hid (belA HB1.out (.cells #[.int .i64 x, .int .i64 y] 23))
    clear y0 y1 y2 HB1
    generalize w1.alloc (.cells #[.int .i64 x, .int .i64 y] 23) = w2 at *
    generalize w1.heap.size = G at *
    have hS : (w2.cell? ⟨w.heap.size, 0, none⟩ = some (.int .i64 r) ∧ w2.cell? ⟨w.heap.size, 1, none⟩ = some (.int .i64 c) ∧ w2.cell? ⟨w.heap.size + 1, 0, none⟩ = some (.int .i64 0) ∧ w2.cell? ⟨w.heap.size + 1, 1, none⟩ = some (.int .i64 a) ∧ w2.cell? ⟨w.heap.size + 1, 2, none⟩ = some (.int .i64 n) ∧ w2.cell? ⟨w.heap.size + 1 + 1, 0, none⟩ = some (.int .i64 1) ∧ w2.cell? ⟨w.heap.size + 1 + 1, 1, none⟩ = some (.int .i64 a) ∧ w2.cell? ⟨w.heap.size + 1 + 1, 2, none⟩ = some (.int .i64 n)) ∧ (w.heap.size < w2.heap.size ∧ w.heap.size + 1 < w2.heap.size ∧ w.heap.size + 1 + 1 < w2.heap.size) ∧ Below w2.heap.size w2 w2 :=
      ⟨⟨cell_of_row _ _ 0 _ _ _ x0, cell_of_row _ _ 1 _ _ _ x0, cell_of_row _ _ 0 _ _ _ x1, cell_of_row _ _ 1 _ _ _ x1, cell_of_row _ _ 2 _ _ _ x1, cell_of_row _ _ 0 _ _ _ x2, cell_of_row _ _ 1 _ _ _ x2, cell_of_row _ _ 2 _ _ _ x2⟩, ⟨(Array.getElem?_eq_some_iff.1 x0).1, (Array.getElem?_eq_some_iff.1 x1).1, (Array.getElem?_eq_some_iff.1 x2).1⟩, Below.refl _ _⟩
    have hSd := eight_step hS (Below.refl w2.heap.size w2).drew
    clear x0 x1 x2
    go_region_held3 (fun W => (W.cell? ⟨w.heap.size, 0, none⟩ = some (.int .i64 r) ∧ W.cell? ⟨w.heap.size, 1, none⟩ = some (.int .i64 c) ∧ W.cell? ⟨w.heap.size + 1, 0, none⟩ = some (.int .i64 0) ∧ W.cell? ⟨w.heap.size + 1, 1, none⟩ = some (.int .i64 a) ∧ W.cell? ⟨w.heap.size + 1, 2, none⟩ = some (.int .i64 n) ∧ W.cell? ⟨w.heap.size + 1 + 1, 0, none⟩ = some (.int .i64 1) ∧ W.cell? ⟨w.heap.size + 1 + 1, 1, none⟩ = some (.int .i64 a) ∧ W.cell? ⟨w.heap.size + 1 + 1, 2, none⟩ = some (.int .i64 n)) ∧ (w.heap.size < W.heap.size ∧ w.heap.size + 1 < W.heap.size ∧ w.heap.size + 1 + 1 < W.heap.size) ∧ Below w2.heap.size w2 W)
      (first | exact hSd | exact eight_step hSd (belA (Below.refl _ _) _) | exact eight_step hS hbx | exact eight_step (by assumption) hbx | exact eight_step (by assumption) (belA (Below.refl _ _) _) | assumption)
      (first
        | (go_at_call 18; (with_reducible refine (HALL.out _).mono ?_); rintro e8 w8 ⟨rfl, hbx⟩)
        | (go_at_call 16; (with_reducible refine (awake_any _).mono ?_); rintro e8 w8 ⟨rfl, hbx⟩))
    all_goals
      go_wp2
      go_ret
      exact ⟨rfl, bel0 HB2.out (eight_below (by assumption))⟩
end Go.Proofs.Ytbloekdhafoniaa
