/- The law PointNone. -/
import Derived.Test.YtnkdbpbfapdfeaaDr
namespace Go.Proofs.Ytnkdbpbfapdfeaa
open Go.RowKit

theorem next_none (fr fc : Int) (w : World) : Calls Try.prog 20 #[.pointer none, .agg #[.int .i64 fr, .int .i64 fc]] w fun e w' => e = .returned (.tuple #[.agg #[.int .i64 0, .int .i64 0], .bool false]) ∧ Below w.heap.size w w' :=
  next_of (.pointer none) [] (by decide) w (fun W _ => (list_none W).mono fun _ _ ⟨A, c, h1, h2⟩ => ⟨A, c, h1, h2, fun e => absurd rfl e⟩) fr fc 0 (Nat.le_refl _) (fun i hi => by omega) (fun i _ hi => by simp at hi)
theorem ahead_none (fr fc : Int) (w : World) : Calls Try.prog 21 #[.pointer none, .agg #[.int .i64 fr, .int .i64 fc]] w fun e w' => e = .returned (.tuple #[.agg #[.int .i64 0, .int .i64 0], .bool false]) ∧ Below w.heap.size w w' :=
  ahead_of (.pointer none) [] (by decide) w (fun W _ => (list_none W).mono fun _ _ ⟨A, c, h1, h2⟩ => ⟨A, c, h1, h2, fun e => absurd rfl e⟩) fr fc 0 (Nat.le_refl _) (fun i hi => by omega) (fun i _ hi => by simp at hi)
theorem box5 {w w1 : World} {p0 p1 s0 s1 s2 : Value} {t1 t2 : TypeId} (hb : Below ((w.alloc (.cells #[p0, p1] t1)).alloc (.cells #[s0, s1, s2] t2)).heap.size ((w.alloc (.cells #[p0, p1] t1)).alloc (.cells #[s0, s1, s2] t2)) w1) :
    (w1.cell? ⟨w.heap.size, 0, none⟩ = some p0 ∧ w1.cell? ⟨w.heap.size, 1, none⟩ = some p1 ∧ w1.cell? ⟨w.heap.size + 1, 0, none⟩ = some s0 ∧ w1.cell? ⟨w.heap.size + 1, 1, none⟩ = some s1 ∧ w1.cell? ⟨w.heap.size + 1, 2, none⟩ = some s2 ∧ w.heap.size + 1 < w1.heap.size) ∧ Below w.heap.size w w1 := by
  have g0 := keep hb (old1 (heap_alloc_new w _))
  have g1 := keep hb (heap_alloc_new (w.alloc _) _)
  rw [show (w.alloc (.cells #[p0, p1] t1)).heap.size = w.heap.size + 1 by simp] at g1
  exact ⟨⟨cell_of_row _ _ 0 _ _ _ g0, cell_of_row _ _ 1 _ _ _ g0, cell_of_row _ _ 0 _ _ _ g1, cell_of_row _ _ 1 _ _ _ g1, cell_of_row _ _ 2 _ _ _ g1, (Array.getElem?_eq_some_iff.1 g1).1⟩, bel0 (belA (belA (Below.refl _ _) _) _) hb⟩
set_option maxRecDepth 100000 in
set_option maxHeartbeats 8000000 in
theorem pointNone_law (most r c k a n : Int) (w : World) : Calls Try.prog 7 #[.int .i64 most, .agg #[.int .i64 r, .int .i64 c], .agg #[.int .i64 k, .int .i64 a, .int .i64 n]] w fun e w' => e = .returned (.bool true) ∧ Below w.heap.size w w' := by
  have HBX : Hid (∀ w1, Below ((w.alloc (.cells #[.int .i64 r, .int .i64 c] 30)).alloc (.cells #[.int .i64 k, .int .i64 a, .int .i64 n] 32)).heap.size ((w.alloc (.cells #[.int .i64 r, .int .i64 c] 30)).alloc (.cells #[.int .i64 k, .int .i64 a, .int .i64 n] 32)) w1 → (w1.cell? ⟨w.heap.size, 0, none⟩ = some (.int .i64 r) ∧ w1.cell? ⟨w.heap.size, 1, none⟩ = some (.int .i64 c) ∧ w1.cell? ⟨w.heap.size + 1, 0, none⟩ = some (.int .i64 k) ∧ w1.cell? ⟨w.heap.size + 1, 1, none⟩ = some (.int .i64 a) ∧ w1.cell? ⟨w.heap.size + 1, 2, none⟩ = some (.int .i64 n) ∧ w.heap.size + 1 < w1.heap.size) ∧ Below w.heap.size w w1) := Lib.hid fun w1 hb => box5 hb
  have H1 := Lib.hid (fun W => add_none r c W)
  have H2 := Lib.hid (fun W => shift_none k a n W)
  have H3 := Lib.hid (fun W => next_none r c W)
  have H4 := Lib.hid (fun W => ahead_none r c W)
  have H5 := Lib.hid (fun W => list_none W)
  have H6 := Lib.hid (fun W => places_none W)
  have H7 := Lib.hid (fun W => put_none (.slice none 0 0) W)
  have H8 := Lib.hid (fun W => len_none W)
  have H9 := Lib.hid (fun W => awake_any W)
  by_cases h : 1 ≤ most ∧ most ≤ 10000
  · have HN : Hid (∀ W, Calls Try.prog 24 #[.int .i64 most] W fun e w' => e = .returned (.tuple #[.pointer (some ⟨W.heap.size, 0, none⟩), .int .i64 0]) ∧ Below W.heap.size W w') := Lib.hid fun W => (new_any most h.1 h.2 W).mono fun _ _ ⟨h1, h2, _⟩ => ⟨h1, h2⟩
    obtain ⟨h1, h2⟩ := h
    go_enter Try.func7, Try.ntmps7
    go_wp2_with (first
      | (go_at_call 24; (with_reducible refine (HN.out _).mono ?_); rintro e w1 ⟨rfl, hb⟩; have HB1 := Lib.hid hb; obtain ⟨⟨b0, b1, b2, b3, b4, bl⟩, hw1⟩ := HBX.out _ HB1.out; clear hb)
      | (go_at_call 22; (with_reducible refine (H1.out _).mono ?_); rintro e w2 ⟨rfl, hb⟩; have HB2 := Lib.hid (bel0 HB1.out hb); obtain ⟨⟨c0, c1, c2, c3, c4, cl⟩, hw2⟩ := HBX.out _ HB2.out; clear hb b0 b1 b2 b3 b4 bl hw1)
      | (go_at_call 25; (with_reducible refine (H2.out _).mono ?_); rintro e w3 ⟨rfl, hb⟩; have HB3 := Lib.hid (bel0 HB2.out hb); obtain ⟨⟨d0, d1, d2, d3, d4, dl⟩, hw3⟩ := HBX.out _ HB3.out; clear hb c0 c1 c2 c3 c4 cl hw2)
      | (go_at_call 20; (with_reducible refine (H3.out _).mono ?_); rintro e w4 ⟨rfl, hb⟩; have HB4 := Lib.hid (bel0 HB3.out hb); obtain ⟨⟨e0, e1, e2, e3, e4, el⟩, hw4⟩ := HBX.out _ (belA HB4.out (.cells #[.int .i64 0, .int .i64 0] 30)); clear hb d0 d1 d2 d3 d4 dl hw3)
      | (go_at_call 21; (with_reducible refine (H4.out _).mono ?_); rintro e w5 ⟨rfl, hb⟩; have HB5 := Lib.hid (bel0 (belA HB4.out _) hb); clear hb)
      | (go_at_call 13; (with_reducible refine (H5.out _).mono ?_); rintro e w6 ⟨A6, c6, rfl, hb⟩; have HB6 := Lib.hid (bel0 (belA HB5.out _) hb); clear hb)
      | (go_at_call 15; (with_reducible refine (H6.out _).mono ?_); rintro e w7 ⟨rfl, rfl⟩)
      | (go_at_call 17; (with_reducible refine (H7.out _).mono ?_); rintro e w7 ⟨rfl, rfl⟩)
      | (go_at_call 11; (with_reducible refine (H8.out _).mono ?_); rintro e w7 ⟨rfl, rfl⟩)
      | (go_at_call 8; (with_reducible refine (H9.out _).mono ?_); rintro e w8 ⟨rfl, hb⟩; have HB8 := Lib.hid (bel0 HB6.out hb); clear hb))
    go_ret
    exact ⟨rfl, (HBX.out _ HB8.out).2⟩
  · have HN : Hid (∀ W, Calls Try.prog 24 #[.int .i64 most] W fun e w' => e = .returned (.tuple #[.pointer none, .int .i64 1]) ∧ Below W.heap.size W w') := Lib.hid fun W => (new_bad most (by omega) W).mono fun _ _ ⟨h1, h2⟩ => ⟨h1, h2 ▸ Below.refl _ _⟩
    by_cases h1 : 1 ≤ most
    · have h2 : ¬ most ≤ 10000 := by omega
      have hd : decide (most ≤ 10000) = false := decide_eq_false h2
      have hd1 : decide (1 ≤ most) = true := decide_eq_true h1
      clear h
      go_enter Try.func7, Try.ntmps7
      go_wp2_with (first
        | (go_at_call 24; (with_reducible refine (HN.out _).mono ?_); rintro e w1 ⟨rfl, hb⟩; have HB1 := Lib.hid hb; obtain ⟨⟨b0, b1, b2, b3, b4, bl⟩, hw1⟩ := HBX.out _ HB1.out; clear hb)
        | (go_at_call 22; (with_reducible refine (H1.out _).mono ?_); rintro e w2 ⟨rfl, hb⟩; have HB2 := Lib.hid (bel0 HB1.out hb); obtain ⟨⟨c0, c1, c2, c3, c4, cl⟩, hw2⟩ := HBX.out _ HB2.out; clear hb b0 b1 b2 b3 b4 bl hw1)
        | (go_at_call 25; (with_reducible refine (H2.out _).mono ?_); rintro e w3 ⟨rfl, hb⟩; have HB3 := Lib.hid (bel0 HB2.out hb); obtain ⟨⟨d0, d1, d2, d3, d4, dl⟩, hw3⟩ := HBX.out _ HB3.out; clear hb c0 c1 c2 c3 c4 cl hw2)
        | (go_at_call 20; (with_reducible refine (H3.out _).mono ?_); rintro e w4 ⟨rfl, hb⟩; have HB4 := Lib.hid (bel0 HB3.out hb); obtain ⟨⟨e0, e1, e2, e3, e4, el⟩, hw4⟩ := HBX.out _ (belA HB4.out (.cells #[.int .i64 0, .int .i64 0] 30)); clear hb d0 d1 d2 d3 d4 dl hw3)
        | (go_at_call 21; (with_reducible refine (H4.out _).mono ?_); rintro e w5 ⟨rfl, hb⟩; have HB5 := Lib.hid (bel0 (belA HB4.out _) hb); clear hb)
        | (go_at_call 13; (with_reducible refine (H5.out _).mono ?_); rintro e w6 ⟨A6, c6, rfl, hb⟩; have HB6 := Lib.hid (bel0 (belA HB5.out _) hb); clear hb)
        | (go_at_call 15; (with_reducible refine (H6.out _).mono ?_); rintro e w7 ⟨rfl, rfl⟩)
        | (go_at_call 17; (with_reducible refine (H7.out _).mono ?_); rintro e w7 ⟨rfl, rfl⟩)
        | (go_at_call 11; (with_reducible refine (H8.out _).mono ?_); rintro e w7 ⟨rfl, rfl⟩)
        | (go_at_call 8; (with_reducible refine (H9.out _).mono ?_); rintro e w8 ⟨rfl, hb⟩; have HB8 := Lib.hid (bel0 HB6.out hb); clear hb))
      go_ret
      exact ⟨rfl, (HBX.out _ HB8.out).2⟩
    · have hd1 : decide (1 ≤ most) = false := decide_eq_false h1
      clear h
      go_enter Try.func7, Try.ntmps7
      go_wp2_with (first
        | (go_at_call 24; (with_reducible refine (HN.out _).mono ?_); rintro e w1 ⟨rfl, hb⟩; have HB1 := Lib.hid hb; obtain ⟨⟨b0, b1, b2, b3, b4, bl⟩, hw1⟩ := HBX.out _ HB1.out; clear hb)
        | (go_at_call 22; (with_reducible refine (H1.out _).mono ?_); rintro e w2 ⟨rfl, hb⟩; have HB2 := Lib.hid (bel0 HB1.out hb); obtain ⟨⟨c0, c1, c2, c3, c4, cl⟩, hw2⟩ := HBX.out _ HB2.out; clear hb b0 b1 b2 b3 b4 bl hw1)
        | (go_at_call 25; (with_reducible refine (H2.out _).mono ?_); rintro e w3 ⟨rfl, hb⟩; have HB3 := Lib.hid (bel0 HB2.out hb); obtain ⟨⟨d0, d1, d2, d3, d4, dl⟩, hw3⟩ := HBX.out _ HB3.out; clear hb c0 c1 c2 c3 c4 cl hw2)
        | (go_at_call 20; (with_reducible refine (H3.out _).mono ?_); rintro e w4 ⟨rfl, hb⟩; have HB4 := Lib.hid (bel0 HB3.out hb); obtain ⟨⟨e0, e1, e2, e3, e4, el⟩, hw4⟩ := HBX.out _ (belA HB4.out (.cells #[.int .i64 0, .int .i64 0] 30)); clear hb d0 d1 d2 d3 d4 dl hw3)
        | (go_at_call 21; (with_reducible refine (H4.out _).mono ?_); rintro e w5 ⟨rfl, hb⟩; have HB5 := Lib.hid (bel0 (belA HB4.out _) hb); clear hb)
        | (go_at_call 13; (with_reducible refine (H5.out _).mono ?_); rintro e w6 ⟨A6, c6, rfl, hb⟩; have HB6 := Lib.hid (bel0 (belA HB5.out _) hb); clear hb)
        | (go_at_call 15; (with_reducible refine (H6.out _).mono ?_); rintro e w7 ⟨rfl, rfl⟩)
        | (go_at_call 17; (with_reducible refine (H7.out _).mono ?_); rintro e w7 ⟨rfl, rfl⟩)
        | (go_at_call 11; (with_reducible refine (H8.out _).mono ?_); rintro e w7 ⟨rfl, rfl⟩)
        | (go_at_call 8; (with_reducible refine (H9.out _).mono ?_); rintro e w8 ⟨rfl, hb⟩; have HB8 := Lib.hid (bel0 HB6.out hb); clear hb))
      go_ret
      exact ⟨rfl, (HBX.out _ HB8.out).2⟩
end Go.Proofs.Ytnkdbpbfapdfeaa
