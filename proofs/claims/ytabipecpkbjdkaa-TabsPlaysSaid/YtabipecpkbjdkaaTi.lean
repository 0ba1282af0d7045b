/- The walks of the laws of tabs: awake, TabsNone. -/
import Derived.Test.YtabipecpkbjdkaaTh
namespace Go.Proofs.Ytabipecpkbjdkaa
open Go.RowKit

theorem ri_new3 (W : World) (a b c : Int) (t : TypeId) : RI (W.alloc (.cells #[.int .i64 a, .int .i64 b, .int .i64 c] t)) (W.alloc (.cells #[.int .i64 a, .int .i64 b, .int .i64 c] t)).heap.size (some ⟨W.heap.size, 0, none⟩) [a, b, c] := fun _ =>
  ⟨W.heap.size, 0, rfl, by simp, fun k hk => by
    rw [cell_of_row _ _ _ _ _ _ (heap_alloc_new W _)]
    match k, hk with
    | 0, _ => rfl
    | 1, _ => rfl
    | 2, _ => rfl⟩
set_option maxHeartbeats 1000000 in
theorem awake_any (w : World) : Calls Try.prog 8 #[] w fun e w' => e = .returned (.bool true) ∧ Below w.heap.size w w' := by
  have HL : Hid (∀ s b W, SS W s b (resL [] 20) → Calls Try.prog 19 #[.pointer (some ⟨s, 0, none⟩)] W (IntsPost [0, 8, 16] W)) := Lib.hid fun s b W h => by
    have := list_any s b _ W h
    rw [show idxL (resL [] 20) = [0, 8, 16] by decide] at this
    exact this
  have HN : Hid (∀ s b W, SS W s b (resL [] 20) → ∀ m : Int, m ≤ 9223372036854775807 → Calls Try.prog 21 #[.pointer (some ⟨s, 0, none⟩), .int .i64 3, .int .i64 m] W fun e w' => e = .returned (.int .i64 (posU (resL [] 20) m.toNat 3)) ∧ Below W.heap.size W w') := Lib.hid fun s b W h m hm => by
    have := next_any s b _ 3 m W h hm
    rw [show clampZ (resL [] 20).length 3 = 3 by decide] at this
    exact this
  have HN1 : Hid (∀ s b W, SS W s b (resL [] 20) → Calls Try.prog 21 #[.pointer (some ⟨s, 0, none⟩), .int .i64 3, .int .i64 1] W fun e w' => e = .returned (.int .i64 8) ∧ Below W.heap.size W w') := Lib.hid fun s b W h => by
    have := HN.out s b W h 1 (by omega)
    rw [show ((posU (resL [] 20) (1 : Int).toNat 3 : Nat) : Int) = 8 by decide] at this
    exact this
  have HN2 : Hid (∀ s b W, SS W s b (resL [] 20) → Calls Try.prog 21 #[.pointer (some ⟨s, 0, none⟩), .int .i64 3, .int .i64 2] W fun e w' => e = .returned (.int .i64 16) ∧ Below W.heap.size W w') := Lib.hid fun s b W h => by
    have := HN.out s b W h 2 (by omega)
    rw [show ((posU (resL [] 20) (2 : Int).toNat 3 : Nat) : Int) = 16 by decide] at this
    exact this
  have HN3 : Hid (∀ s b W, SS W s b (resL [] 20) → Calls Try.prog 21 #[.pointer (some ⟨s, 0, none⟩), .int .i64 3, .int .i64 3] W fun e w' => e = .returned (.int .i64 19) ∧ Below W.heap.size W w') := Lib.hid fun s b W h => by
    have := HN.out s b W h 3 (by omega)
    rw [show ((posU (resL [] 20) (3 : Int).toNat 3 : Nat) : Int) = 19 by decide] at this
    exact this
  have HNEW : Hid (Calls Try.prog 9 #[.int .i64 20] w (NewPost 20 w)) := Lib.hid (new_any 20 w (by omega) (by omega))
  clear HN
  go_enter Try.func8, Try.ntmps8
  go_wp2_with (first
    | (go_at_call 9; (with_reducible refine HNEW.out.mono ?_); rintro e w1 ⟨s, b, rfl, hS, hs, hb, hB⟩; have HS1 := Lib.hid hS; have HB1 := Lib.hid hB; clear hS hs hb hB)
    | (go_at_call 19; (with_reducible refine (HL.out s b _ HS1.out).mono ?_); rintro e w2 ⟨v, rfl, hown, hb2⟩; obtain ⟨A2, c2, rfl, _⟩ := own_form hown; have HR2 := Lib.hid ((RI.of_own (n := 3) hown).past ((Below.refl _ _).alloc (Nat.le_refl _) (.cells #[.int .i64 0, .int .i64 8, .int .i64 16] 3))); have HB2 := Lib.hid hb2; clear hown hb2)
    | (go_at_call 18; (with_reducible refine (ints_any A2 (some ⟨w2.heap.size, 0, none⟩) [0, 8, 16] [0, 8, 16] 3 3 c2 3 rfl rfl (by omega) _ HR2.out (ri_new3 w2 0 8 16 3)).mono ?_); rintro e w3 ⟨rfl, hb3⟩; have HB3 := Lib.hid (bel1 HB2.out hb3); clear hb3)
    | (go_at_call 21; (with_reducible refine (HN1.out s b _ (HS1.out.past HB3.out)).mono ?_); rintro e w4 ⟨rfl, hb4⟩; have HB4 := Lib.hid (bel0 HB3.out hb4); clear hb4)
    | (go_at_call 21; (with_reducible refine (HN2.out s b _ (HS1.out.past HB4.out)).mono ?_); rintro e w5 ⟨rfl, hb5⟩; have HB5 := Lib.hid (bel0 HB4.out hb5); clear hb5)
    | (go_at_call 21; (with_reducible refine (HN3.out s b _ (HS1.out.past HB5.out)).mono ?_); rintro e w6 ⟨rfl, hb6⟩; have HB6 := Lib.hid (bel0 HB5.out hb6); clear hb6))
  go_ret
  exact ⟨rfl, bel0 HB1.out HB6.out⟩

set_option maxHeartbeats 1000000 in
theorem tabsNone_law (cols x n : Int) (w : World) :
    Calls Try.prog 6 #[.int .i64 cols, .int .i64 x, .int .i64 n] w fun e w' => e = .returned (.bool true) ∧ Below w.heap.size w w' := by
  by_cases h : cols < 2 ∨ 1000 < cols
  · have H := Lib.hid h
    have hd : decide (cols < 2) = true ∨ decide (cols < 2) = false ∧ decide (1000 < cols) = true := by
      by_cases h2 : cols < 2
      · exact .inl (decide_eq_true h2)
      · exact .inr ⟨decide_eq_false h2, decide_eq_true (by omega)⟩
    clear h
    rcases hd with hd | ⟨hd, hd2⟩
    all_goals
      go_enter Try.func6, Try.ntmps6
      go_wp2_with (first
        | (go_at_call 9; (with_reducible refine (new_no _ _ H.out).mono ?_); rintro e w1 ⟨rfl, hB⟩; have HB1 := Lib.hid hB; clear hB)
        | (go_at_call 11; (with_reducible refine (set_nil _ _).mono ?_); rintro e w' ⟨rfl, rfl⟩)
        | (go_at_call 13; (with_reducible refine (clear_nil _ _).mono ?_); rintro e w' ⟨rfl, rfl⟩)
        | (go_at_call 14; (with_reducible refine (none_nil _).mono ?_); rintro e w' ⟨rfl, rfl⟩)
        | (go_at_call 17; (with_reducible refine (cols_nil _).mono ?_); rintro e w' ⟨rfl, rfl⟩)
        | (go_at_call 24; (with_reducible refine (has_nil _ _).mono ?_); rintro e w' ⟨rfl, rfl⟩)
        | (go_at_call 21; (with_reducible refine (next_nil _ _ _).mono ?_); rintro e w2 ⟨rfl, hb2⟩; have HB2 := Lib.hid (bel0 HB1.out hb2); clear hb2)
        | (go_at_call 23; (with_reducible refine (ahead_nil _ _ _).mono ?_); rintro e w3 ⟨rfl, hb3⟩; have HB3 := Lib.hid (bel0 HB2.out hb3); clear hb3)
        | (go_at_call 15; (with_reducible refine (size_nil _ _).mono ?_); rintro e w' ⟨rfl, rfl⟩)
        | (go_at_call 19; (with_reducible refine (list_nil _).mono ?_); rintro e w' ⟨rfl, rfl⟩)
        | (go_at_call 8; (with_reducible refine (awake_any _).mono ?_); rintro e w4 ⟨rfl, hb4⟩; have HB4 := Lib.hid (bel0 HB3.out hb4); clear hb4))
      go_ret
      exact ⟨rfl, HB4.out⟩
  · obtain ⟨c, rfl⟩ := Int.eq_ofNat_of_zero_le (show 0 ≤ cols by omega)
    have HNEW : Hid (Calls Try.prog 9 #[.int .i64 c] w (NewPost c w)) := Lib.hid (new_any c w (by omega) (by omega))
    have hd : decide ((c : Int) < 2) = false := decide_eq_false (by omega)
    have hd2 : decide (1000 < (c : Int)) = false := decide_eq_false (by omega)
    have HCO : Hid (∀ s b W, SS W s b (resL [] c) → Calls Try.prog 17 #[.pointer (some ⟨s, 0, none⟩)] W fun e w' => e = .returned (.int .i64 c) ∧ W = w') := Lib.hid fun s b W h => by
      have := cols_any s b _ W h
      rw [resL_len] at this
      exact this
    clear h
    go_enter Try.func6, Try.ntmps6
    go_wp2_with (first
      | (go_at_call 9; (with_reducible refine HNEW.out.mono ?_); rintro e w1 ⟨s, b, rfl, hS, hs, hb, hB⟩; have HS1 := Lib.hid hS; have HB1 := Lib.hid hB; clear hS hs hb hB)
      | (go_at_call 11; (with_reducible refine (set_nil _ _).mono ?_); rintro e w' ⟨rfl, rfl⟩)
      | (go_at_call 13; (with_reducible refine (clear_nil _ _).mono ?_); rintro e w' ⟨rfl, rfl⟩)
      | (go_at_call 14; (with_reducible refine (none_nil _).mono ?_); rintro e w' ⟨rfl, rfl⟩)
      | (go_at_call 17; (with_reducible refine (cols_nil _).mono ?_); rintro e w' ⟨rfl, rfl⟩)
      | (go_at_call 17; (with_reducible refine (HCO.out s b _ HS1.out).mono ?_); rintro e w' ⟨rfl, rfl⟩)
      | (go_at_call 24; (with_reducible refine (has_nil _ _).mono ?_); rintro e w' ⟨rfl, rfl⟩)
      | (go_at_call 21; (with_reducible refine (next_nil _ _ _).mono ?_); rintro e w2 ⟨rfl, hb2⟩; have HB2 := Lib.hid (bel0 HB1.out hb2); clear hb2)
      | (go_at_call 23; (with_reducible refine (ahead_nil _ _ _).mono ?_); rintro e w3 ⟨rfl, hb3⟩; have HB3 := Lib.hid (bel0 HB2.out hb3); clear hb3)
      | (go_at_call 15; (with_reducible refine (size_nil _ _).mono ?_); rintro e w' ⟨rfl, rfl⟩)
      | (go_at_call 19; (with_reducible refine (list_nil _).mono ?_); rintro e w' ⟨rfl, rfl⟩)
      | (go_at_call 8; (with_reducible refine (awake_any _).mono ?_); rintro e w4 ⟨rfl, hb4⟩; have HB4 := Lib.hid (bel0 HB3.out hb4); clear hb4))
    go_ret
    exact ⟨rfl, HB4.out⟩

end Go.Proofs.Ytabipecpkbjdkaa
