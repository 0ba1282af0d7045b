/- The example of find; the law FindAll. -/
import Derived.Test.YtmkgjfinmojjnaaR2
namespace Go.Proofs.Ytmkgjfinmojjnaa
open Go.RowKit

def zsN (L : List Nat) : List Int := L.map Int.ofNat
theorem zsN_len (L : List Nat) : (zsN L).length = L.length := by simp [zsN]
theorem zsN_at (L : List Nat) (k : Nat) : (zsN L)[k]?.getD 0 = ((L[k]?.getD 0 : Nat) : Int) := by
  unfold zsN
  rw [List.getElem?_map]
  cases L[k]? <;> rfl
theorem zsN_inj {L M : List Nat} (h : L ≠ M) : zsN L ≠ zsN M := fun e => h (by
  have := congrArg (List.map Int.toNat) e
  simpa [zsN, List.map_map, Function.comp_def] using this)
/-- What was gathered reads as numbers. -/
theorem ri_of {w w' : World} {L : List Nat} {A : Option Addr} {c : Nat} (h : w'.ownsRow w.heap.size 3 1 (.slice A L.length c) L.length (intV L)) : RI w' w'.heap.size A (zsN L) := by
  refine RI.of_own (base := w.heap.size) (n := L.length) (c := c) ?_
  have : (zsN L).map (Value.int .i64) = intV L := by simp [zsN, intV]
  rw [this]
  exact h
theorem ints_as (L M : List Nat) (b : Bool) (hb : decide (L = M) = b) (n n' : Nat) (hn : n = L.length) (hn' : n' = M.length) (hl : n ≤ 1000000000) (A A' : Option Addr) (c c' : Nat) (W : World) (h : RI W W.heap.size A (zsN L)) (h' : RI W W.heap.size A' (zsN M)) :
    Calls Try.prog 10 #[.slice A n c, .slice A' n' c'] W fun e w' => e = .returned (.bool b) ∧ Below W.heap.size W w' := by
  have h1 := ints_any A A' (zsN L) (zsN M) n n' c c' (by rw [zsN_len]; exact hn) (by rw [zsN_len]; exact hn') (by omega) W h h'
  have : intsB (zsN L) (zsN M) = b := by
    rw [← hb]
    unfold intsB
    by_cases e : L = M
    · rw [e]; simp
    · rw [decide_eq_false e, decide_eq_false (zsN_inj e)]
  rwa [this] at h1
theorem ri_lit3 (W : World) (a b c : Nat) : RI (W.alloc (.cells #[.int .i64 a, .int .i64 b, .int .i64 c] 3)) (W.alloc (.cells #[.int .i64 a, .int .i64 b, .int .i64 c] 3)).heap.size (some ⟨W.heap.size, 0, none⟩) (zsN [a, b, c]) := fun _ =>
  ⟨W.heap.size, 0, rfl, by simp, fun k hk => by
    rw [cell_of_row _ _ _ _ _ _ (heap_alloc_new W _)]
    match k, hk with
    | 0, _ => rfl
    | 1, _ => rfl
    | 2, _ => rfl⟩
theorem ri_lit2 (W : World) (a b : Nat) : RI (W.alloc (.cells #[.int .i64 a, .int .i64 b] 3)) (W.alloc (.cells #[.int .i64 a, .int .i64 b] 3)).heap.size (some ⟨W.heap.size, 0, none⟩) (zsN [a, b]) := fun _ =>
  ⟨W.heap.size, 0, rfl, by simp, fun k hk => by
    rw [cell_of_row _ _ _ _ _ _ (heap_alloc_new W _)]
    match k, hk with
    | 0, _ => rfl
    | 1, _ => rfl⟩
set_option maxRecDepth 100000 in
set_option maxHeartbeats 4000000 in
theorem awake_any (w : World) : Calls Try.prog 8 #[] w fun e w' => e = .returned (.bool true) ∧ Below w.heap.size w w' := by
  have HA : Hid (Calls Try.prog 11 #[.string ⟨#[97, 97, 97, 97]⟩, .string ⟨#[97, 97]⟩] w fun e w' => ∃ A c, e = .returned (.slice A 3 c) ∧ RI w' w'.heap.size A (zsN [0, 1, 2]) ∧ Below w.heap.size w w') := Lib.hid <| by
    have h := all_any [97, 97, 97, 97] [97, 97] (by decide) (by decide) w
    have e : pls idL [97, 97, 97, 97] [97, 97] = [0, 1, 2] := by decide
    rw [e] at h
    exact h.mono fun e w' ⟨A, c, he, ho, hb⟩ => ⟨A, c, he, ri_of ho, hb⟩
  have HP : Hid (∀ W, Calls Try.prog 16 #[.string ⟨#[97, 97, 97, 97]⟩, .string ⟨#[97, 97]⟩] W fun e w' => ∃ A c, e = .returned (.slice A 2 c) ∧ RI w' w'.heap.size A (zsN [0, 2]) ∧ Below W.heap.size W w') := Lib.hid fun W => by
    have h := apart_any [97, 97, 97, 97] [97, 97] (by decide) (by decide) W
    have e : apL 2 (pls idL [97, 97, 97, 97] [97, 97]) = [0, 2] := by decide
    change Calls _ _ _ W (IntsPost (apL 2 (pls idL [97, 97, 97, 97] [97, 97])) W) at h
    rw [e] at h
    exact h.mono fun e w' ⟨A, c, he, ho, hb⟩ => ⟨A, c, he, ri_of ho, hb⟩
  have HI : Hid (∀ (W : World) A c, RI W W.heap.size A (zsN [0, 1, 2]) → Calls Try.prog 10 #[.slice A 3 c, .slice (some ⟨W.heap.size, 0, none⟩) 3 3] (W.alloc (.cells #[.int .i64 0, .int .i64 1, .int .i64 2] 3)) fun e w' => e = .returned (.bool true) ∧ Below W.heap.size W w') := Lib.hid fun W A c h => (ints_as [0, 1, 2] [0, 1, 2] true (by decide) 3 3 rfl rfl (by omega) A _ c 3 _ (h.past (belA (Below.refl _ _) _)) (ri_lit3 W 0 1 2)).mono fun e w' h => ⟨h.1, bel1 (Below.refl _ _) h.2⟩
  have HJ : Hid (∀ (W : World) A c, RI W W.heap.size A (zsN [0, 2]) → Calls Try.prog 10 #[.slice A 2 c, .slice (some ⟨W.heap.size, 0, none⟩) 2 2] (W.alloc (.cells #[.int .i64 0, .int .i64 2] 3)) fun e w' => e = .returned (.bool true) ∧ Below W.heap.size W w') := Lib.hid fun W A c h => (ints_as [0, 2] [0, 2] true (by decide) 2 2 rfl rfl (by omega) A _ c 2 _ (h.past (belA (Below.refl _ _) _)) (ri_lit2 W 0 2)).mono fun e w' h => ⟨h.1, bel1 (Below.refl _ _) h.2⟩
  go_enter Try.func8, Try.ntmps8
  go_wp2_with (first
    | (go_at_call 11; (with_reducible refine HA.out.mono ?_); rintro e w1 ⟨A1, c1, rfl, hr1, hb1⟩; have HR1 := Lib.hid hr1; have HB1 := Lib.hid hb1; clear hr1 hb1 HA)
    | (go_at_call 10; (with_reducible refine (HI.out w1 A1 c1 HR1.out).mono ?_); rintro e w2 ⟨rfl, hb2⟩; have HB2 := Lib.hid (bel0 HB1.out hb2); clear hb2 HI HR1)
    | (go_at_call 16; (with_reducible refine (HP.out w2).mono ?_); rintro e w3 ⟨A3, c3, rfl, hr3, hb3⟩; have HR3 := Lib.hid hr3; have HB3 := Lib.hid (bel0 HB2.out hb3); clear hr3 hb3 HP)
    | (go_at_call 10; (with_reducible refine (HJ.out w3 A3 c3 HR3.out).mono ?_); rintro e w4 ⟨rfl, hb4⟩; have HB4 := Lib.hid (bel0 HB3.out hb4); clear hb4 HJ))
  go_ret
  exact ⟨rfl, HB4.out⟩
set_option maxRecDepth 100000 in
set_option maxHeartbeats 8000000 in
theorem findAll_law (T N : List UInt8) (w : World) : Calls Try.prog 3 #[.string (bsB T), .string (bsB N)] w fun e w' => e = .returned (.bool true) ∧ Below w.heap.size w w' := by
  have HAW := Lib.hid awake_any
  have hsT : ((bsB T).size : Int) = T.length := by rw [bsB_size]
  have hsN : ((bsB N).size : Int) = N.length := by rw [bsB_size]
  by_cases hT : T.length ≤ 400
  · have hTi : ¬ ((400 : Int) < T.length) := by omega
    by_cases hN : N.length ≤ 100
    · have hNi : ¬ ((100 : Int) < N.length) := by omega
      have hl0 := plU_len idL T N
      have hl1 := plU_len lowL T N
      have HR0 : Hid (∀ W, Calls Try.prog 9 #[.string (bsB T), .string (bsB N), .bool false] W fun e w' => ∃ A c, e = .returned (.slice A (pls idL T N).length c) ∧ RI w' w'.heap.size A (zsN (pls idL T N)) ∧ Below W.heap.size W w') := Lib.hid fun W => (refAll_any T N (by omega) (by omega) false W).mono fun e w' ⟨A, c, he, ho, hb⟩ => ⟨A, c, he, ri_of ho, hb⟩
      have HR1 : Hid (∀ W, Calls Try.prog 9 #[.string (bsB T), .string (bsB N), .bool true] W fun e w' => ∃ A c, e = .returned (.slice A (pls lowL T N).length c) ∧ RI w' w'.heap.size A (zsN (pls lowL T N)) ∧ Below W.heap.size W w') := Lib.hid fun W => (refAll_any T N (by omega) (by omega) true W).mono fun e w' ⟨A, c, he, ho, hb⟩ => ⟨A, c, he, ri_of ho, hb⟩
      have HP0 : Hid (∀ W, Calls Try.prog 11 #[.string (bsB T), .string (bsB N)] W fun e w' => ∃ A c, e = .returned (.slice A (pls idL T N).length c) ∧ RI w' w'.heap.size A (zsN (pls idL T N)) ∧ Below W.heap.size W w') := Lib.hid fun W => (all_any T N (by omega) (by omega) W).mono fun e w' ⟨A, c, he, ho, hb⟩ => ⟨A, c, he, ri_of ho, hb⟩
      have HP1 : Hid (∀ W, Calls Try.prog 12 #[.string (bsB T), .string (bsB N)] W fun e w' => ∃ A c, e = .returned (.slice A (pls lowL T N).length c) ∧ RI w' w'.heap.size A (zsN (pls lowL T N)) ∧ Below W.heap.size W w') := Lib.hid fun W => (looseF_any T N (by omega) (by omega) W).mono fun e w' ⟨A, c, he, ho, hb⟩ => ⟨A, c, he, ri_of ho, hb⟩
      have HC : Hid (∀ W, Calls Try.prog 13 #[.string (bsB T), .string (bsB N)] W fun e w' => e = .returned (.int .i64 (pls idL T N).length) ∧ Below W.heap.size W w') := Lib.hid fun W => count_any T N (by omega) (by omega) W
      have HI0 : Hid (∀ W A A' c c', RI W W.heap.size A (zsN (pls idL T N)) → RI W W.heap.size A' (zsN (pls idL T N)) → Calls Try.prog 10 #[.slice A (pls idL T N).length c, .slice A' (pls idL T N).length c'] W fun e w' => e = .returned (.bool true) ∧ Below W.heap.size W w') := Lib.hid fun W A A' c c' h h' => ints_as _ _ true (by simp) _ _ rfl rfl (by omega) A A' c c' W h h'
      have HI1 : Hid (∀ W A A' c c', RI W W.heap.size A (zsN (pls lowL T N)) → RI W W.heap.size A' (zsN (pls lowL T N)) → Calls Try.prog 10 #[.slice A (pls lowL T N).length c, .slice A' (pls lowL T N).length c'] W fun e w' => e = .returned (.bool true) ∧ Below W.heap.size W w') := Lib.hid fun W A A' c c' h h' => ints_as _ _ true (by simp) _ _ rfl rfl (by omega) A A' c c' W h h'
      clear hl0 hl1 hT hN
      generalize zsN (pls idL T N) = z0 at *
      generalize zsN (pls lowL T N) = z1 at *
      generalize (pls idL T N).length = n0 at *
      generalize (pls lowL T N).length = n1 at *
      generalize bsB T = sT at *
      generalize bsB N = sN at *
      go_enter Try.func3, Try.ntmps3
      go_wp2_with (first
        | (go_at_call 9; (with_reducible refine (HR0.out w).mono ?_); rintro e w1 ⟨A1, c1, rfl, hr1, hb1⟩; have HX1 := Lib.hid hr1; have HB1 := Lib.hid hb1; clear hr1 hb1 HR0)
        | (go_at_call 11; (with_reducible refine (HP0.out w1).mono ?_); rintro e w2 ⟨A2, c2, rfl, hr2, hb2⟩; have HX2 := Lib.hid hr2; have HX1' := Lib.hid (HX1.out.past hb2); have HB2 := Lib.hid (bel0 HB1.out hb2); clear hr2 hb2 HP0 HX1)
        | (go_at_call 10; (with_reducible refine (HI0.out w2 A2 A1 c2 c1 HX2.out HX1'.out).mono ?_); rintro e w3 ⟨rfl, hb3⟩; have HB3 := Lib.hid (bel0 HB2.out hb3); clear hb3 HX1' HX2 HI0)
        | (go_at_call 12; (with_reducible refine (HP1.out w3).mono ?_); rintro e w4 ⟨A4, c4, rfl, hr4, hb4⟩; have HX4 := Lib.hid hr4; have HB4 := Lib.hid (bel0 HB3.out hb4); clear hr4 hb4 HP1)
        | (go_at_call 9; (with_reducible refine (HR1.out w4).mono ?_); rintro e w5 ⟨A5, c5, rfl, hr5, hb5⟩; have HX5 := Lib.hid hr5; have HX4' := Lib.hid (HX4.out.past hb5); have HB5 := Lib.hid (bel0 HB4.out hb5); clear hr5 hb5 HR1 HX4)
        | (go_at_call 10; (with_reducible refine (HI1.out w5 A4 A5 c4 c5 HX4'.out HX5.out).mono ?_); rintro e w6 ⟨rfl, hb6⟩; have HB6 := Lib.hid (bel0 HB5.out hb6); clear hb6 HX4' HX5 HI1)
        | (go_at_call 13; (with_reducible refine (HC.out w6).mono ?_); rintro e w7 ⟨rfl, hb7⟩; have HB7 := Lib.hid (bel0 HB6.out hb7); clear hb7)
        | (go_at_call 8; (with_reducible refine (HAW.out w7).mono ?_); rintro e w8 ⟨rfl, hb8⟩; have HB8 := Lib.hid (bel0 HB7.out hb8); clear hb8))
      go_ret
      exact ⟨rfl, HB8.out⟩
    · have hNi : (100 : Int) < N.length := by omega
      clear hN hT
      generalize bsB T = sT at *
      generalize bsB N = sN at *
      go_enter Try.func3, Try.ntmps3
      go_wp2_with (go_at_call 8; (with_reducible refine (HAW.out w).mono ?_); rintro e w8 ⟨rfl, hb8⟩; have HB8 := Lib.hid hb8; clear hb8)
      go_ret
      exact ⟨rfl, HB8.out⟩
  · have hTi : (400 : Int) < T.length := by omega
    clear hT
    generalize bsB T = sT at *
    generalize bsB N = sN at *
    go_enter Try.func3, Try.ntmps3
    go_wp2_with (go_at_call 8; (with_reducible refine (HAW.out w).mono ?_); rintro e w8 ⟨rfl, hb8⟩; have HB8 := Lib.hid hb8; clear hb8)
    go_ret
    exact ⟨rfl, HB8.out⟩

end Go.Proofs.Ytmkgjfinmojjnaa
