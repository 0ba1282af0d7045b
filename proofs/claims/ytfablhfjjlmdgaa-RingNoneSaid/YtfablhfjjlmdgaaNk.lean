/- The law of RingNone. -/
import Derived.Test.YtfablhfjjlmdgaaNj
namespace Go.Proofs.Ytfablhfjjlmdgaa
open Go.RowKit

theorem room_q (w0 w : World) (D room : Nat) (gone : Int) (L : List (Int × Bool)) (M : Nat) (h : RQ w0 w D room gone L M) : Calls Try.prog 15 #[.pointer (some ⟨D, 0, none⟩)] w fun e w' => e = .returned (.int .i64 room) ∧ w' = w := by
  obtain ⟨A, c, xs, h1, _⟩ := h
  exact room_any w D _ room gone L xs h1
theorem row_b (n : Int) (hn : -2147483648 ≤ n ∧ n ≤ 2147483647) (w : World) :
    Calls Try.prog 17 #[.int .i64 n] w fun e w' => ∃ g c b, e = .returned (.agg #[.slice (some ⟨g, 0, none⟩) 1 c, .bool b]) ∧ Below w.heap.size w w' :=
  (row_q n hn w).mono fun _ _ ⟨g, c, h1, h2, _⟩ => ⟨g, c, _, h1, h2⟩
theorem none_hid (i : Int) : Hid ((∀ W v1 v2, Calls Try.prog 16 #[.pointer none, .agg #[v1, v2]] W fun e w' => e = .returned (.tuple #[.agg #[.slice none 0 0, .bool false], .bool false]) ∧ Below W.heap.size W w') ∧
    (∀ W, Calls Try.prog 21 #[.pointer none] W fun e w' => e = .returned (.tuple #[.agg #[.slice none 0 0, .bool false], .bool false]) ∧ Below W.heap.size W w') ∧
    (∀ W, Calls Try.prog 19 #[.pointer none, .int .i64 i] W fun e w' => e = .returned (.tuple #[.agg #[.slice none 0 0, .bool false], .bool false]) ∧ Below W.heap.size W w') ∧
    (∀ W v1 v2, Calls Try.prog 24 #[.pointer none, .int .i64 i, .agg #[v1, v2]] W fun e w' => e = .returned (.bool false) ∧ Below W.heap.size W w') ∧
    (∀ W, Calls Try.prog 11 #[.pointer none] W fun e w' => e = .returned (.int .i64 0) ∧ w' = W) ∧
    (∀ W, Calls Try.prog 15 #[.pointer none] W fun e w' => e = .returned (.int .i64 0) ∧ w' = W) ∧
    (∀ W, Calls Try.prog 12 #[.pointer none] W fun e w' => e = .returned (.int .u64 0) ∧ w' = W) ∧
    (∀ W, Calls Try.prog 14 #[.pointer none] W fun e w' => e = .returned (.slice none 0 0) ∧ w' = W) ∧
    (∀ W v, Calls Try.prog 22 #[.pointer none, v] W fun e w' => e = .returned (.int .i64 0) ∧ w' = W) ∧
    (∀ W, Calls Try.prog 23 #[.pointer none] W fun e w' => e = .returned (.int .i64 0) ∧ w' = W) ∧
    (∀ W, Calls Try.prog 17 #[.int .i64 1] W fun e w' => ∃ g c b, e = .returned (.agg #[.slice (some ⟨g, 0, none⟩) 1 c, .bool b]) ∧ Below W.heap.size W w') ∧
    (∀ W, Calls Try.prog 8 #[] W fun e w' => e = .returned (.bool true) ∧ Below W.heap.size W w')) :=
  Lib.hid ⟨fun W v1 v2 => push_none v1 v2 W, fun W => pop_none W, fun W => at_none i W, fun W v1 v2 => set_none i v1 v2 W, fun W => len_none W, fun W => room_none W, fun W => gone_none W, fun W => all_none W, fun W v => fill_none v W, fun W => clear_none W, fun W => row_b 1 (by decide) W, fun W => awake_any W⟩

set_option maxRecDepth 100000 in
set_option maxHeartbeats 8000000 in
theorem ringNone_law (room i : Int) (w : World) : Calls Try.prog 6 #[.int .i64 room, .int .i64 i] w fun e w' => e = .returned (.bool true) ∧ Below w.heap.size w w' := by
  have HN := none_hid i
  by_cases hr : room < 0 ∨ 100000 < room
  · have HNEW := Lib.hid (new_bad room hr w)
    rcases hr with h0 | h0
    all_goals
      (try have h1 : ¬ room < 0 := by omega)
      go_enter Try.func6, Try.ntmps6
      go_wp2_with (first
        | (go_at_call 9; go_must (with_reducible refine HNEW.out.mono ?_; rintro e1 w1 ⟨rfl, hb1⟩; have HB := Lib.hid hb1; clear hb1 HNEW))
        | (go_at_call 17; go_must (with_reducible refine (HN.out.2.2.2.2.2.2.2.2.2.2.1 _).mono ?_; rintro e2 w2 ⟨g2, c2, b2, rfl, hb2⟩; have HB2 : Hid (Below w.heap.size w w2) := Lib.hid (by first | exact bel0 HB.out hb2 | exact bel1 HB.out hb2 | exact bel2 HB.out hb2 | exact bel3 HB.out hb2); clear hb2 HB; have HB := HB2; clear HB2))
        | (go_at_call 16; go_must (with_reducible refine (HN.out.1 _ _ _).mono ?_; rintro e2 w2 ⟨rfl, hb2⟩; have HB2 : Hid (Below w.heap.size w w2) := Lib.hid (by first | exact bel0 HB.out hb2 | exact bel1 HB.out hb2 | exact bel2 HB.out hb2 | exact bel3 HB.out hb2); clear hb2 HB; have HB := HB2; clear HB2))
        | (go_at_call 21; go_must (with_reducible refine (HN.out.2.1 _).mono ?_; rintro e2 w2 ⟨rfl, hb2⟩; have HB2 : Hid (Below w.heap.size w w2) := Lib.hid (by first | exact bel0 HB.out hb2 | exact bel1 HB.out hb2 | exact bel2 HB.out hb2 | exact bel3 HB.out hb2); clear hb2 HB; have HB := HB2; clear HB2))
        | (go_at_call 19; go_must (with_reducible refine (HN.out.2.2.1 _).mono ?_; rintro e2 w2 ⟨rfl, hb2⟩; have HB2 : Hid (Below w.heap.size w w2) := Lib.hid (by first | exact bel0 HB.out hb2 | exact bel1 HB.out hb2 | exact bel2 HB.out hb2 | exact bel3 HB.out hb2); clear hb2 HB; have HB := HB2; clear HB2))
        | (go_at_call 24; go_must (with_reducible refine (HN.out.2.2.2.1 _ _ _).mono ?_; rintro e2 w2 ⟨rfl, hb2⟩; have HB2 : Hid (Below w.heap.size w w2) := Lib.hid (by first | exact bel0 HB.out hb2 | exact bel1 HB.out hb2 | exact bel2 HB.out hb2 | exact bel3 HB.out hb2); clear hb2 HB; have HB := HB2; clear HB2))
        | (go_at_call 11; go_must (with_reducible refine (HN.out.2.2.2.2.1 _).mono ?_; rintro e2 w2 ⟨rfl, rfl⟩))
        | (go_at_call 15; go_must (with_reducible refine (HN.out.2.2.2.2.2.1 _).mono ?_; rintro e2 w2 ⟨rfl, rfl⟩))
        | (go_at_call 12; go_must (with_reducible refine (HN.out.2.2.2.2.2.2.1 _).mono ?_; rintro e2 w2 ⟨rfl, rfl⟩))
        | (go_at_call 14; go_must (with_reducible refine (HN.out.2.2.2.2.2.2.2.1 _).mono ?_; rintro e2 w2 ⟨rfl, rfl⟩))
        | (go_at_call 22; go_must (with_reducible refine (HN.out.2.2.2.2.2.2.2.2.1 _ _).mono ?_; rintro e2 w2 ⟨rfl, rfl⟩))
        | (go_at_call 23; go_must (with_reducible refine (HN.out.2.2.2.2.2.2.2.2.2.1 _).mono ?_; rintro e2 w2 ⟨rfl, rfl⟩))
        | (go_at_call 8; go_must (with_reducible refine (HN.out.2.2.2.2.2.2.2.2.2.2.2 _).mono ?_; rintro e2 w2 ⟨rfl, hb2⟩; have HB2 : Hid (Below w.heap.size w w2) := Lib.hid (by first | exact bel0 HB.out hb2 | exact bel1 HB.out hb2 | exact bel2 HB.out hb2 | exact bel3 HB.out hb2); clear hb2 HB; have HB := HB2; clear HB2)))
      go_ret
      exact ⟨rfl, HB.out⟩
  · obtain ⟨rm, rfl⟩ : ∃ rm : Nat, room = rm := ⟨room.toNat, by omega⟩
    have hrm : rm ≤ 100000 := by omega
    have HNEW := Lib.hid (new_q rm hrm w)
    have h0 : ¬ (rm : Int) < 0 := by omega
    have h1 : ¬ (100000 : Int) < rm := by omega
    clear hr
    go_enter Try.func6, Try.ntmps6
    go_wp2_with (first
      | (go_at_call 9; go_must (with_reducible refine HNEW.out.mono ?_; rintro e1 w1 ⟨rfl, hq1⟩; have HB := Lib.hid hq1.below; have HQ := Lib.hid hq1; clear hq1 HNEW))
      | (go_at_call 15; (with_reducible refine (room_q w _ _ _ _ _ _ HQ.out).mono ?_); rintro e2 w2 ⟨rfl, rfl⟩)
      | (go_at_call 11; (with_reducible refine (len_q w _ _ _ _ _ _ HQ.out).mono ?_); rintro e2 w2 ⟨rfl, rfl⟩)
      | (go_at_call 12; (with_reducible refine (gone_q w _ _ _ _ _ _ HQ.out).mono ?_); rintro e2 w2 ⟨rfl, rfl⟩; clear HQ)
      | (go_at_call 17; go_must (with_reducible refine (HN.out.2.2.2.2.2.2.2.2.2.2.1 _).mono ?_; rintro e2 w2 ⟨g2, c2, b2, rfl, hb2⟩; have HB2 : Hid (Below w.heap.size w w2) := Lib.hid (by first | exact bel0 HB.out hb2 | exact bel1 HB.out hb2 | exact bel2 HB.out hb2 | exact bel3 HB.out hb2); clear hb2 HB; have HB := HB2; clear HB2))
      | (go_at_call 16; go_must (with_reducible refine (HN.out.1 _ _ _).mono ?_; rintro e2 w2 ⟨rfl, hb2⟩; have HB2 : Hid (Below w.heap.size w w2) := Lib.hid (by first | exact bel0 HB.out hb2 | exact bel1 HB.out hb2 | exact bel2 HB.out hb2 | exact bel3 HB.out hb2); clear hb2 HB; have HB := HB2; clear HB2))
      | (go_at_call 21; go_must (with_reducible refine (HN.out.2.1 _).mono ?_; rintro e2 w2 ⟨rfl, hb2⟩; have HB2 : Hid (Below w.heap.size w w2) := Lib.hid (by first | exact bel0 HB.out hb2 | exact bel1 HB.out hb2 | exact bel2 HB.out hb2 | exact bel3 HB.out hb2); clear hb2 HB; have HB := HB2; clear HB2))
      | (go_at_call 19; go_must (with_reducible refine (HN.out.2.2.1 _).mono ?_; rintro e2 w2 ⟨rfl, hb2⟩; have HB2 : Hid (Below w.heap.size w w2) := Lib.hid (by first | exact bel0 HB.out hb2 | exact bel1 HB.out hb2 | exact bel2 HB.out hb2 | exact bel3 HB.out hb2); clear hb2 HB; have HB := HB2; clear HB2))
      | (go_at_call 24; go_must (with_reducible refine (HN.out.2.2.2.1 _ _ _).mono ?_; rintro e2 w2 ⟨rfl, hb2⟩; have HB2 : Hid (Below w.heap.size w w2) := Lib.hid (by first | exact bel0 HB.out hb2 | exact bel1 HB.out hb2 | exact bel2 HB.out hb2 | exact bel3 HB.out hb2); clear hb2 HB; have HB := HB2; clear HB2))
      | (go_at_call 11; go_must (with_reducible refine (HN.out.2.2.2.2.1 _).mono ?_; rintro e2 w2 ⟨rfl, rfl⟩))
      | (go_at_call 15; go_must (with_reducible refine (HN.out.2.2.2.2.2.1 _).mono ?_; rintro e2 w2 ⟨rfl, rfl⟩))
      | (go_at_call 12; go_must (with_reducible refine (HN.out.2.2.2.2.2.2.1 _).mono ?_; rintro e2 w2 ⟨rfl, rfl⟩))
      | (go_at_call 14; go_must (with_reducible refine (HN.out.2.2.2.2.2.2.2.1 _).mono ?_; rintro e2 w2 ⟨rfl, rfl⟩))
      | (go_at_call 22; go_must (with_reducible refine (HN.out.2.2.2.2.2.2.2.2.1 _ _).mono ?_; rintro e2 w2 ⟨rfl, rfl⟩))
      | (go_at_call 23; go_must (with_reducible refine (HN.out.2.2.2.2.2.2.2.2.2.1 _).mono ?_; rintro e2 w2 ⟨rfl, rfl⟩))
      | (go_at_call 8; go_must (with_reducible refine (HN.out.2.2.2.2.2.2.2.2.2.2.2 _).mono ?_; rintro e2 w2 ⟨rfl, hb2⟩; have HB2 : Hid (Below w.heap.size w w2) := Lib.hid (by first | exact bel0 HB.out hb2 | exact bel1 HB.out hb2 | exact bel2 HB.out hb2 | exact bel3 HB.out hb2); clear hb2 HB; have HB := HB2; clear HB2)))
    go_ret
    exact ⟨rfl, HB.out⟩
end Go.Proofs.Ytfablhfjjlmdgaa
