/- The walk of the law CharsNames. -/
import Derived.Test.YtjdpkjdnamfloaaDoorCo
namespace Go.Proofs.YtjdpkjdnamfloaaDoor
open Go.RowKit

/-- What the region holds: both boxes, and that nothing older has turned. -/
theorem held_step {w W W' : World} {g h : Nat} {a b c d u o : Int} (hS : (W.cell? ⟨g, 0, none⟩ = some (.int .i64 a) ∧ W.cell? ⟨g, 1, none⟩ = some (.int .i64 b) ∧ W.cell? ⟨g, 2, none⟩ = some (.int .i64 c) ∧ W.cell? ⟨g, 3, none⟩ = some (.int .i64 d) ∧ W.cell? ⟨g, 4, none⟩ = some (.int .i64 u) ∧ W.cell? ⟨g, 5, none⟩ = some (.int .i64 o)) ∧ (W.cell? ⟨h, 0, none⟩ = some (.int .i64 a) ∧ W.cell? ⟨h, 1, none⟩ = some (.int .i64 b) ∧ W.cell? ⟨h, 2, none⟩ = some (.int .i64 c) ∧ W.cell? ⟨h, 3, none⟩ = some (.int .i64 d) ∧ W.cell? ⟨h, 4, none⟩ = some (.int .i64 u) ∧ W.cell? ⟨h, 5, none⟩ = some (.int .i64 o)) ∧ g < W.heap.size ∧ h < W.heap.size ∧ Below w.heap.size w W) (hb : Below W.heap.size W W') : (W'.cell? ⟨g, 0, none⟩ = some (.int .i64 a) ∧ W'.cell? ⟨g, 1, none⟩ = some (.int .i64 b) ∧ W'.cell? ⟨g, 2, none⟩ = some (.int .i64 c) ∧ W'.cell? ⟨g, 3, none⟩ = some (.int .i64 d) ∧ W'.cell? ⟨g, 4, none⟩ = some (.int .i64 u) ∧ W'.cell? ⟨g, 5, none⟩ = some (.int .i64 o)) ∧ (W'.cell? ⟨h, 0, none⟩ = some (.int .i64 a) ∧ W'.cell? ⟨h, 1, none⟩ = some (.int .i64 b) ∧ W'.cell? ⟨h, 2, none⟩ = some (.int .i64 c) ∧ W'.cell? ⟨h, 3, none⟩ = some (.int .i64 d) ∧ W'.cell? ⟨h, 4, none⟩ = some (.int .i64 u) ∧ W'.cell? ⟨h, 5, none⟩ = some (.int .i64 o)) ∧ g < W'.heap.size ∧ h < W'.heap.size ∧ Below w.heap.size w W' := by
  obtain ⟨⟨g0, g1, g2, g3, g4, g5⟩, ⟨h0, h1, h2, h3, h4, h5⟩, hg, hh, hB⟩ := hS
  have eg : ∀ k, W'.cell? ⟨g, k, none⟩ = W.cell? ⟨g, k, none⟩ := fun k => hb.cell (p := ⟨g, k, none⟩) hg
  have eh : ∀ k, W'.cell? ⟨h, k, none⟩ = W.cell? ⟨h, k, none⟩ := fun k => hb.cell (p := ⟨h, k, none⟩) hh
  exact ⟨⟨(eg 0).trans g0, (eg 1).trans g1, (eg 2).trans g2, (eg 3).trans g3, (eg 4).trans g4, (eg 5).trans g5⟩, ⟨(eh 0).trans h0, (eh 1).trans h1, (eh 2).trans h2, (eh 3).trans h3, (eh 4).trans h4, (eh 5).trans h5⟩, Nat.lt_of_lt_of_le hg hb.size, Nat.lt_of_lt_of_le hh hb.size, bel0 hB hb⟩
theorem held_below {w W : World} {g h : Nat} {a b c d u o : Int} (hS : (W.cell? ⟨g, 0, none⟩ = some (.int .i64 a) ∧ W.cell? ⟨g, 1, none⟩ = some (.int .i64 b) ∧ W.cell? ⟨g, 2, none⟩ = some (.int .i64 c) ∧ W.cell? ⟨g, 3, none⟩ = some (.int .i64 d) ∧ W.cell? ⟨g, 4, none⟩ = some (.int .i64 u) ∧ W.cell? ⟨g, 5, none⟩ = some (.int .i64 o)) ∧ (W.cell? ⟨h, 0, none⟩ = some (.int .i64 a) ∧ W.cell? ⟨h, 1, none⟩ = some (.int .i64 b) ∧ W.cell? ⟨h, 2, none⟩ = some (.int .i64 c) ∧ W.cell? ⟨h, 3, none⟩ = some (.int .i64 d) ∧ W.cell? ⟨h, 4, none⟩ = some (.int .i64 u) ∧ W.cell? ⟨h, 5, none⟩ = some (.int .i64 o)) ∧ g < W.heap.size ∧ h < W.heap.size ∧ Below w.heap.size w W) : Below w.heap.size w W := hS.2.2.2.2

set_option maxRecDepth 100000 in
set_option maxHeartbeats 8000000 in
theorem charsNames_law (a b c d u o x : Int) (s : ByteArray) (w : World) (hT : CT w) :
    Calls Tryd.prog 4 #[.agg #[.int .i64 a, .int .i64 b, .int .i64 c, .int .i64 d, .int .i64 u, .int .i64 o], .string s, .int .u8 x] w fun e w' => e = .returned (.bool true) ∧ Below w.heap.size w w' := by
  have HA : Hid (∀ W, Below w.heap.size w W → Calls Tryd.prog 11 #[] W fun e w' => e = .returned (.bool true) ∧ Below W.heap.size W w') := Lib.hid fun W hW => awake_any W (hT.below hW)
  have q1 := fun W => eqS W (nameC 40 a s x) (nameC 41 b s x) (nameC 42 c s x) (nameC 43 d s x) u o
  have q2 := fun W => eqS W a b c d (takeZ u x) o
  have q3 := fun W => eqS W a b c d (lockU u x) (lockO o x)
  have q4 := fun W => eqS W 66 66 66 66 0 0
  have hgS : Tryd.prog.eqGuardType Tryd.prog.depth 28 = false := by kernel_rfl
  have HN1 : Hid (∀ W, Calls Tryd.prog 12 #[.agg #[.int .i64 a, .int .i64 b, .int .i64 c, .int .i64 d, .int .i64 u, .int .i64 o], .string s, .int .u8 x] W fun e w' => e = .returned (.agg #[.int .i64 (nameC 40 a s x), .int .i64 (nameC 41 b s x), .int .i64 (nameC 42 c s x), .int .i64 (nameC 43 d s x), .int .i64 u, .int .i64 o]) ∧ Below W.heap.size W w') := Lib.hid (name_any a b c d u o x s)
  have HN2 : Hid (∀ W, Calls Tryd.prog 13 #[.agg #[.int .i64 a, .int .i64 b, .int .i64 c, .int .i64 d, .int .i64 u, .int .i64 o], .string s, .int .u8 x] W fun e w' => e = .returned (.agg #[.int .i64 (nameC 40 a s x), .int .i64 (nameC 41 b s x), .int .i64 (nameC 42 c s x), .int .i64 (nameC 43 d s x), .int .i64 u, .int .i64 o]) ∧ Below W.heap.size W w') := Lib.hid (refName_any a b c d u o x s)
  have HT1 := Lib.hid (take_any a b c d u o x)
  have HT2 := Lib.hid (refTake_any a b c d u o x)
  have HL1 := Lib.hid (lock_any a b c d u o x)
  have HL2 := Lib.hid (refLock_any a b c d u o x)
  clear hT
  generalize nameC 40 a s x = na at *
  generalize nameC 41 b s x = nb at *
  generalize nameC 42 c s x = nc at *
  generalize nameC 43 d s x = nd at *
  generalize takeZ u x = tu at *
  generalize lockU u x = lu at *
  generalize lockO o x = lo at *
  go_enter Tryd.func4, Tryd.ntmps4
  go_wp2_with (go_at_call 10; (with_reducible refine (ofS_any _ _ _ _ _ _ _).mono ?_); rintro e w1 ⟨rfl, hb1⟩; have hs1 := (box_new (Below.refl _ w)).past hb1)
  have hs2 := hs1.past ((Below.refl _ _).alloc (Nat.le_refl _) (.cells #[.int .i64 a, .int .i64 b, .int .i64 c, .int .i64 d, .int .i64 u, .int .i64 o] 28))
  have ht2 := box_new (w := w) (W := w1) (v0 := .int .i64 a) (v1 := .int .i64 b) (v2 := .int .i64 c) (v3 := .int .i64 d) (v4 := .int .i64 u) (v5 := .int .i64 o) (t := 28) hs1.below
  clear hs1 hb1
  generalize w1.alloc (.cells #[.int .i64 a, .int .i64 b, .int .i64 c, .int .i64 d, .int .i64 u, .int .i64 o] 28) = w2 at *
  generalize w1.heap.size = h at *
  have hS : ((w2.cell? ⟨w.heap.size, 0, none⟩ = some (.int .i64 a) ∧ w2.cell? ⟨w.heap.size, 1, none⟩ = some (.int .i64 b) ∧ w2.cell? ⟨w.heap.size, 2, none⟩ = some (.int .i64 c) ∧ w2.cell? ⟨w.heap.size, 3, none⟩ = some (.int .i64 d) ∧ w2.cell? ⟨w.heap.size, 4, none⟩ = some (.int .i64 u) ∧ w2.cell? ⟨w.heap.size, 5, none⟩ = some (.int .i64 o)) ∧ (w2.cell? ⟨h, 0, none⟩ = some (.int .i64 a) ∧ w2.cell? ⟨h, 1, none⟩ = some (.int .i64 b) ∧ w2.cell? ⟨h, 2, none⟩ = some (.int .i64 c) ∧ w2.cell? ⟨h, 3, none⟩ = some (.int .i64 d) ∧ w2.cell? ⟨h, 4, none⟩ = some (.int .i64 u) ∧ w2.cell? ⟨h, 5, none⟩ = some (.int .i64 o)) ∧ w.heap.size < w2.heap.size ∧ h < w2.heap.size ∧ Below w.heap.size w w2) := ⟨⟨hs2.c0, hs2.c1, hs2.c2, hs2.c3, hs2.c4, hs2.c5⟩, ⟨ht2.c0, ht2.c1, ht2.c2, ht2.c3, ht2.c4, ht2.c5⟩, hs2.lt, ht2.lt, hs2.below⟩
  have hSd := held_step hS ((Below.refl w2.heap.size w2).drew)
  clear hs2 ht2
  go_region_held3 (fun W => (W.cell? ⟨w.heap.size, 0, none⟩ = some (.int .i64 a) ∧ W.cell? ⟨w.heap.size, 1, none⟩ = some (.int .i64 b) ∧ W.cell? ⟨w.heap.size, 2, none⟩ = some (.int .i64 c) ∧ W.cell? ⟨w.heap.size, 3, none⟩ = some (.int .i64 d) ∧ W.cell? ⟨w.heap.size, 4, none⟩ = some (.int .i64 u) ∧ W.cell? ⟨w.heap.size, 5, none⟩ = some (.int .i64 o)) ∧ (W.cell? ⟨h, 0, none⟩ = some (.int .i64 a) ∧ W.cell? ⟨h, 1, none⟩ = some (.int .i64 b) ∧ W.cell? ⟨h, 2, none⟩ = some (.int .i64 c) ∧ W.cell? ⟨h, 3, none⟩ = some (.int .i64 d) ∧ W.cell? ⟨h, 4, none⟩ = some (.int .i64 u) ∧ W.cell? ⟨h, 5, none⟩ = some (.int .i64 o)) ∧ w.heap.size < W.heap.size ∧ h < W.heap.size ∧ Below w.heap.size w W)
    (first | exact hSd | exact held_step hSd hb6 | exact held_step (by assumption) hb6)
    (first
      | (go_at_call 12; (with_reducible refine (HN1.out _).mono ?_); rintro e6 w6 ⟨rfl, hb6⟩)
      | (go_at_call 10; (with_reducible refine (ofS_any _ _ _ _ _ _ _).mono ?_); rintro e6 w6 ⟨rfl, hb6⟩)
      | (go_at_call 13; (with_reducible refine (HN2.out _).mono ?_); rintro e6 w6 ⟨rfl, hb6⟩)
      | (go_at_call 14; (with_reducible refine (HT1.out _).mono ?_); rintro e6 w6 ⟨rfl, hb6⟩)
      | (go_at_call 15; (with_reducible refine (HT2.out _).mono ?_); rintro e6 w6 ⟨rfl, hb6⟩)
      | (go_at_call 16; (with_reducible refine (HL1.out _).mono ?_); rintro e6 w6 ⟨rfl, hb6⟩)
      | (go_at_call 17; (with_reducible refine (HL2.out _).mono ?_); rintro e6 w6 ⟨rfl, hb6⟩)
      | (go_at_call 18; (with_reducible refine (new_any _).mono ?_); rintro e6 w6 ⟨rfl, hb6⟩)
      | (go_at_call 19; (with_reducible refine (firstS_any _).mono ?_); rintro e6 w6 ⟨rfl, hb6⟩)
      | (go_at_call 11; (with_reducible refine (HA.out _ ?_).mono ?_); (first | exact held_below (by assumption) | exact held_below hSd | exact (held_below (held_step hSd hb6))); rintro e6 w6 ⟨rfl, hb6⟩))
  go_wp2
  go_ret
  exact ⟨rfl, held_below (by assumption)⟩

end Go.Proofs.YtjdpkjdnamfloaaDoor
