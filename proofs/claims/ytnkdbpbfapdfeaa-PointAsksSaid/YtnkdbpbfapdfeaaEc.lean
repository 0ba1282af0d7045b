/- What Move and the document's Move answer: the same. -/
import Derived.Test.YtnkdbpbfapdfeaaEb
namespace Go.Proofs.Ytnkdbpbfapdfeaa
open Go.RowKit

theorem okS_t {k a n : Int} (h : okS k a n = true) : 0 ≤ a ∧ a ≤ 1099511627776 ∧ 1 ≤ n ∧ n ≤ 1099511627776 ∧ 0 ≤ k ∧ k ≤ 2 := by
  simp only [okS, Bool.and_eq_true] at h
  have := num_t h.1.1.2
  have := num_t h.1.2
  have : 1 ≤ n := of_decide_eq_true h.2
  have : 0 ≤ k ∧ k ≤ 2 := of_decide_eq_true h.1.1.1
  omega
theorem okP_t {r c : Int} (h : okP r c = true) : 0 ≤ r ∧ r ≤ 1099511627776 ∧ 0 ≤ c ∧ c ≤ 1099511627776 := by
  simp only [okP, Bool.and_eq_true] at h
  have := num_t h.1
  have := num_t h.2
  omega
theorem begZ_t {k a : Int} (h : 0 ≤ a ∧ a ≤ 1099511627776) : 0 ≤ begZ k a ∧ begZ k a ≤ 1099511627776 := by unfold begZ; split <;> omega

theorem old1 {w : World} {i : Nat} {o x : Obj} (h : w.heap[i]? = some x) : (w.alloc o).heap[i]? = some x := (heap_alloc_old w o (Array.getElem?_eq_some_iff.1 h).1).trans h
theorem keep {W w1 : World} (hb : Below W.heap.size W w1) {i : Nat} {x : Obj} (h : W.heap[i]? = some x) : w1.heap[i]? = some x := (hb.block i (Array.getElem?_eq_some_iff.1 h).1).trans h
theorem unfrozen_of {W : World} {i : Nat} {cs : Array Value} {t : TypeId} (h : W.heap[i]? = some (.cells cs t)) (k : Nat) : W.frozen? ⟨i, k, none⟩ = false := by
  simp only [World.frozen?]
  rw [h]
  simp
theorem move_keep {w w1 : World} {p0 p1 s0 s1 s2 q0 q1 : Value} {t1 t2 t3 : TypeId} {o3 o4 o5 : Obj} (hb : Below ((((((w.alloc (.cells #[p0, p1] t1)).alloc (.cells #[s0, s1, s2] t2)).alloc (.cells #[q0, q1] t3)).alloc o3).alloc o4).alloc o5).heap.size ((((((w.alloc (.cells #[p0, p1] t1)).alloc (.cells #[s0, s1, s2] t2)).alloc (.cells #[q0, q1] t3)).alloc o3).alloc o4).alloc o5) w1) :
    (w1.cell? ⟨w.heap.size, 0, none⟩ = some p0 ∧ w1.cell? ⟨w.heap.size, 1, none⟩ = some p1) ∧ (w1.cell? ⟨w.heap.size + 1, 0, none⟩ = some s0 ∧ w1.cell? ⟨w.heap.size + 1, 1, none⟩ = some s1 ∧ w1.cell? ⟨w.heap.size + 1, 2, none⟩ = some s2) ∧ (w1.cell? ⟨w.heap.size + 2, 0, none⟩ = some q0 ∧ w1.cell? ⟨w.heap.size + 2, 1, none⟩ = some q1) ∧ (∀ k, w1.frozen? ⟨w.heap.size, k, none⟩ = false) ∧ (∀ k, w1.frozen? ⟨w.heap.size + 2, k, none⟩ = false) := by
  have g0 := keep hb (old1 (old1 (old1 (old1 (old1 (heap_alloc_new w _))))))
  have g1 := keep hb (old1 (old1 (old1 (old1 (heap_alloc_new (w.alloc _) _)))))
  have g2 := keep hb (old1 (old1 (old1 (heap_alloc_new ((w.alloc _).alloc _) _))))
  rw [show (w.alloc (.cells #[p0, p1] t1)).heap.size = w.heap.size + 1 by simp] at g1
  rw [show ((w.alloc (.cells #[p0, p1] t1)).alloc (.cells #[s0, s1, s2] t2)).heap.size = w.heap.size + 2 by simp] at g2
  exact ⟨⟨cell_of_row _ _ 0 _ _ _ g0, cell_of_row _ _ 1 _ _ _ g0⟩, ⟨cell_of_row _ _ 0 _ _ _ g1, cell_of_row _ _ 1 _ _ _ g1, cell_of_row _ _ 2 _ _ _ g1⟩, ⟨cell_of_row _ _ 0 _ _ _ g2, cell_of_row _ _ 1 _ _ _ g2⟩, unfrozen_of g0, unfrozen_of g2⟩
theorem belC {a w : World} (h : Below a.heap.size a w) {g k : Nat} {v : Value} (hg : a.heap.size ≤ g) : Below a.heap.size a (w.setCell ⟨g, k, none⟩ v) := h.setCell (p := ⟨g, k, none⟩) hg _
set_option maxHeartbeats 1000000 in
theorem move_any (r c k a n : Int) (w : World) : Calls Try.prog 42 #[.agg #[.int .i64 r, .int .i64 c], .agg #[.int .i64 k, .int .i64 a, .int .i64 n]] w fun e w' => e = .returned (.agg #[.int .i64 (moveZ r c k a n).1, .int .i64 (moveZ r c k a n).2]) ∧ Below w.heap.size w w' := by
  have HB := Lib.hid (begin_any k a n)
  cases hp : okP r c with
  | false =>
    rw [show moveZ r c k a n = (r, c) from if_pos (.inl hp)]
    have HP := Lib.hid (isPlace_as r c _ hp)
    clear hp
    go_enter Try.func42, Try.ntmps42
    go_wp2_with (first
      | (go_at_call 52; (with_reducible refine (HB.out _).mono ?_); rintro e w' ⟨rfl, rfl⟩)
      | (go_at_call 50; (with_reducible refine (HP.out _).mono ?_); rintro e w' ⟨rfl, rfl⟩))
    refine bodyPost_ret (v := .agg #[.int .i64 r, .int .i64 c]) (by simp [results, Try.results42, go_sem]) rfl ⟨rfl, ?_⟩
    exact belA (belA (belA (belA (belA (Below.refl _ _) _) _) _) _) _
  | true =>
  cases hs : okS k a n with
  | false =>
    rw [show moveZ r c k a n = (r, c) from if_pos (.inr (.inl hs))]
    have HP := Lib.hid (isPlace_as r c _ hp)
    have HS := Lib.hid (right_as k a n _ hs)
    clear hp hs
    go_enter Try.func42, Try.ntmps42
    go_wp2_with (first
      | (go_at_call 52; (with_reducible refine (HB.out _).mono ?_); rintro e w' ⟨rfl, rfl⟩)
      | (go_at_call 50; (with_reducible refine (HP.out _).mono ?_); rintro e w' ⟨rfl, rfl⟩)
      | (go_at_call 51; (with_reducible refine (HS.out _).mono ?_); rintro e w' ⟨rfl, rfl⟩))
    refine bodyPost_ret (v := .agg #[.int .i64 r, .int .i64 c]) (by simp [results, Try.results42, go_sem]) rfl ⟨rfl, ?_⟩
    exact belA (belA (belA (belA (belA (belA (Below.refl _ _) _) _) _) _) _) _
  | true =>
  have HP := Lib.hid (isPlace_as r c _ hp)
  have HS := Lib.hid (right_as k a n _ hs)
  obtain ⟨a1, a2, n1, n2, k1, k2⟩ := okS_t hs
  obtain ⟨r1, r2, c1, c2⟩ := okP_t hp
  have hz := begZ_t (k := k) ⟨a1, a2⟩
  by_cases hlt : r < begZ k a
  · rw [show moveZ r c k a n = (r, c) from if_pos (.inr (.inr hlt))]
    generalize begZ k a = z at *
    clear hp hs hz a1 a2 n1 n2 k1 k2 r1 r2 c1 c2
    go_enter Try.func42, Try.ntmps42
    go_wp2_with (first
      | (go_at_call 52; (with_reducible refine (HB.out _).mono ?_); rintro e w' ⟨rfl, rfl⟩)
      | (go_at_call 50; (with_reducible refine (HP.out _).mono ?_); rintro e w' ⟨rfl, rfl⟩)
      | (go_at_call 51; (with_reducible refine (HS.out _).mono ?_); rintro e w' ⟨rfl, rfl⟩))
    refine bodyPost_ret (v := .agg #[.int .i64 r, .int .i64 c]) (by simp [results, Try.results42, go_sem]) rfl ⟨rfl, ?_⟩
    exact belA (belA (belA (belA (belA (belA (Below.refl _ _) _) _) _) _) _) _
  · have hN : ¬ (okP r c = false ∨ okS k a n = false ∨ r < begZ k a) := by simp [hp, hs, hlt]
    have hge : begZ k a ≤ r := by omega
    have hd : decide (r < begZ k a) = false := decide_eq_false hlt
    by_cases hk : k = 0
    · subst hk
      rw [show moveZ r c 0 a n = (r + n, c) by unfold moveZ; rw [if_neg hN, if_pos rfl]]
      have hw : IntKind.i64.wrap (r + n) = r + n := by rw [IntKind.wrap_i64]; omega
      generalize begZ 0 a = z at *
      clear hp hs hN hge hlt hz k1 k2 a1 a2 c1 c2
      go_enter Try.func42, Try.ntmps42
      go_wp2_with (first
        | (go_at_call 52; (with_reducible refine (HB.out _).mono ?_); rintro e w' ⟨rfl, rfl⟩)
        | (go_at_call 50; (with_reducible refine (HP.out _).mono ?_); rintro e w' ⟨rfl, rfl⟩)
        | (go_at_call 51; (with_reducible refine (HS.out _).mono ?_); rintro e w' ⟨rfl, rfl⟩))
      refine bodyPost_ret (v := .agg #[.int .i64 (r + n), .int .i64 c]) (by simp [results, Try.results42, go_sem]) rfl ⟨rfl, ?_⟩
      exact belA (belA (belA (belA (belA (belA (Below.refl _ _) _) _) _) _) _) _
    · have hk0 : (k == 0) = false := by simpa using hk
      cases hl : lostB r c k a n with
      | true =>
        have hlt2 : r < begZ k a + n := by
          simp only [lostB, Bool.and_eq_true] at hl
          exact of_decide_eq_true hl.2
        rw [show moveZ r c k a n = (begZ k a, 0) by unfold moveZ; rw [if_neg hN, if_neg hk, if_pos hlt2]]
        have HL := Lib.hid (lost_as r c k a n _ hl)
        generalize begZ k a = z at *
        clear hp hs hN hge hlt hz k1 k2 a1 a2 c1 c2 hk hl hlt2 n1 n2 r1 r2
        go_enter Try.func42, Try.ntmps42
        go_wp2_with (first
          | (go_at_call 52; (with_reducible refine (HB.out _).mono ?_); rintro e w' ⟨rfl, rfl⟩)
          | (go_at_call 50; (with_reducible refine (HP.out _).mono ?_); rintro e w' ⟨rfl, rfl⟩)
          | (go_at_call 51; (with_reducible refine (HS.out _).mono ?_); rintro e w' ⟨rfl, rfl⟩)
          | (go_at_call 41; (with_reducible refine (HL.out _).mono ?_); rintro e w1 ⟨rfl, hb⟩; obtain ⟨⟨y0, y1⟩, ⟨z0, z1, z2⟩, ⟨q0, q1⟩, f0, f2⟩ := move_keep hb; have HB1 := Lib.hid (bel0 (belA (belA (belA (belA (belA (belA (Below.refl _ _) _) _) _) _) _) _) hb); clear hb))
        refine bodyPost_ret (v := .agg #[.int .i64 z, .int .i64 0]) (by simp [results, Try.results42, go_sem, q0, q1]) rfl ⟨rfl, ?_⟩
        exact belC (belC (belC (belC HB1.out (by omega)) (by omega)) (by omega)) (by omega)
      | false =>
        have hlt2 : ¬ r < begZ k a + n := fun h => by
          have : lostB r c k a n = true := by
            simp only [lostB, Bool.and_eq_true]
            exact ⟨⟨⟨⟨hp, hs⟩, decide_eq_true hk⟩, decide_eq_true hge⟩, decide_eq_true h⟩
          rw [hl] at this
          cases this
        rw [show moveZ r c k a n = (r - n, c) by unfold moveZ; rw [if_neg hN, if_neg hk, if_neg hlt2]]
        have HL := Lib.hid (lost_as r c k a n _ hl)
        have hw : IntKind.i64.wrap (r - n) = r - n := by rw [IntKind.wrap_i64]; omega
        generalize begZ k a = z at *
        clear hp hs hN hge hlt hz k1 k2 a1 a2 c1 c2 hk hl hlt2
        go_enter Try.func42, Try.ntmps42
        go_wp2_with (first
          | (go_at_call 52; (with_reducible refine (HB.out _).mono ?_); rintro e w' ⟨rfl, rfl⟩)
          | (go_at_call 50; (with_reducible refine (HP.out _).mono ?_); rintro e w' ⟨rfl, rfl⟩)
          | (go_at_call 51; (with_reducible refine (HS.out _).mono ?_); rintro e w' ⟨rfl, rfl⟩)
          | (go_at_call 41; (with_reducible refine (HL.out _).mono ?_); rintro e w1 ⟨rfl, hb⟩; obtain ⟨⟨y0, y1⟩, ⟨z0, z1, z2⟩, ⟨q0, q1⟩, f0, f2⟩ := move_keep hb; have HB1 := Lib.hid (bel0 (belA (belA (belA (belA (belA (belA (Below.refl _ _) _) _) _) _) _) _) hb); clear hb))
        refine bodyPost_ret (v := .agg #[.int .i64 (r - n), .int .i64 c]) (by simp [results, Try.results42, go_sem, q0, q1]) rfl ⟨rfl, ?_⟩
        exact belC (belC (belC HB1.out (by omega)) (by omega)) (by omega)

set_option maxHeartbeats 1000000 in
theorem refMove_any (r c k a n : Int) (w : World) : Calls Try.prog 44 #[.agg #[.int .i64 r, .int .i64 c], .agg #[.int .i64 k, .int .i64 a, .int .i64 n]] w fun e w' => e = .returned (.agg #[.int .i64 (moveZ r c k a n).1, .int .i64 (moveZ r c k a n).2]) ∧ Below w.heap.size w w' := by
  cases hs : okS k a n with
  | false =>
    rw [show moveZ r c k a n = (r, c) from if_pos (.inr (.inl hs))]
    have HS := Lib.hid (refShift_as k a n _ hs)
    clear hs
    go_enter Try.func44, Try.ntmps44
    go_wp2_with (go_at_call 43; (with_reducible refine (HS.out _).mono ?_); rintro e w' ⟨rfl, rfl⟩)
    refine bodyPost_ret (v := .agg #[.int .i64 r, .int .i64 c]) (by simp [results, Try.results44, go_sem]) rfl ⟨rfl, ?_⟩
    exact belA (belA (belA (belA (Below.refl _ _) _) _) _) _
  | true =>
  cases h1 : num r with
  | false =>
    rw [show moveZ r c k a n = (r, c) from if_pos (.inl (by rw [okP, h1]; rfl))]
    have HS := Lib.hid (refShift_as k a n _ hs)
    have H1 := Lib.hid (refRight_as r _ h1)
    clear hs h1
    go_enter Try.func44, Try.ntmps44
    go_wp2_with (first
      | (go_at_call 43; (with_reducible refine (HS.out _).mono ?_); rintro e w' ⟨rfl, rfl⟩)
      | (go_at_call 23; (with_reducible refine (H1.out _).mono ?_); rintro e w' ⟨rfl, rfl⟩))
    refine bodyPost_ret (v := .agg #[.int .i64 r, .int .i64 c]) (by simp [results, Try.results44, go_sem]) rfl ⟨rfl, ?_⟩
    exact belA (belA (belA (belA (Below.refl _ _) _) _) _) _
  | true =>
  cases h2 : num c with
  | false =>
    rw [show moveZ r c k a n = (r, c) from if_pos (.inl (by rw [okP, h1, h2]; rfl))]
    have HS := Lib.hid (refShift_as k a n _ hs)
    have H1 := Lib.hid (refRight_as r _ h1)
    have H2 := Lib.hid (refRight_as c _ h2)
    clear hs h1 h2
    go_enter Try.func44, Try.ntmps44
    go_wp2_with (first
      | (go_at_call 43; (with_reducible refine (HS.out _).mono ?_); rintro e w' ⟨rfl, rfl⟩)
      | (go_at_call 23; (with_reducible refine (H1.out _).mono ?_); rintro e w' ⟨rfl, rfl⟩)
      | (go_at_call 23; (with_reducible refine (H2.out _).mono ?_); rintro e w' ⟨rfl, rfl⟩))
    refine bodyPost_ret (v := .agg #[.int .i64 r, .int .i64 c]) (by simp [results, Try.results44, go_sem]) rfl ⟨rfl, ?_⟩
    exact belA (belA (belA (belA (Below.refl _ _) _) _) _) _
  | true =>
  have hp : okP r c = true := by rw [okP, h1, h2]; rfl
  have HS := Lib.hid (refShift_as k a n _ hs)
  have H1 := Lib.hid (refRight_as r _ h1)
  have H2 := Lib.hid (refRight_as c _ h2)
  obtain ⟨a1, a2, n1, n2, k1, k2⟩ := okS_t hs
  obtain ⟨r1, r2, c1, c2⟩ := okP_t hp
  have hN : ∀ z, ¬ r < z → ¬ (okP r c = false ∨ okS k a n = false ∨ r < z) := fun z hz => by simp [hp, hs]; omega
  by_cases hk2 : k = 2
  · subst hk2
    rw [show moveZ r c 2 a n = if r < n then (0, 0) else (r - n, c) by
      unfold moveZ
      rw [show begZ 2 a = 0 from rfl, if_neg (hN 0 (by omega)), if_neg (by omega), Int.zero_add]]
    have hw : IntKind.i64.wrap (r - n) = r - n := by rw [IntKind.wrap_i64]; omega
    have hw2 : IntKind.i64.wrap r = r := by rw [IntKind.wrap_i64]; omega
    have hd : decide (r < 0) = false := decide_eq_false (by omega)
    by_cases hl : r < n
    · rw [if_pos hl]
      clear hs h1 h2 hp hN a1 a2 n1 n2 k1 k2 r1 r2 c1 c2 hw
      go_enter Try.func44, Try.ntmps44
      go_wp2_with (first
        | (go_at_call 43; (with_reducible refine (HS.out _).mono ?_); rintro e w' ⟨rfl, rfl⟩)
        | (go_at_call 23; (with_reducible refine (H1.out _).mono ?_); rintro e w' ⟨rfl, rfl⟩)
        | (go_at_call 23; (with_reducible refine (H2.out _).mono ?_); rintro e w' ⟨rfl, rfl⟩))
      refine bodyPost_ret (v := .agg #[.int .i64 0, .int .i64 0]) (by simp [results, Try.results44, go_sem]) rfl ⟨rfl, ?_⟩
      exact belA (belA (belA (belA (Below.refl _ _) _) _) _) _
    · rw [if_neg hl]
      have hd2 : decide (r < n) = false := decide_eq_false hl
      clear hs h1 h2 hp hN a1 a2 n1 n2 k1 k2 r1 r2 c1 c2 hl
      go_enter Try.func44, Try.ntmps44
      go_wp2_with (first
        | (go_at_call 43; (with_reducible refine (HS.out _).mono ?_); rintro e w' ⟨rfl, rfl⟩)
        | (go_at_call 23; (with_reducible refine (H1.out _).mono ?_); rintro e w' ⟨rfl, rfl⟩)
        | (go_at_call 23; (with_reducible refine (H2.out _).mono ?_); rintro e w' ⟨rfl, rfl⟩))
      refine bodyPost_ret (v := .agg #[.int .i64 (r - n), .int .i64 c]) (by simp [results, Try.results44, go_sem]) rfl ⟨rfl, ?_⟩
      exact belA (belA (belA (belA (Below.refl _ _) _) _) _) _
  · have hkb : (k == 2) = false := by simpa using hk2
    have hbz : begZ k a = a := if_neg hk2
    by_cases hlt : r < a
    · rw [show moveZ r c k a n = (r, c) from if_pos (.inr (.inr (by rw [hbz]; exact hlt)))]
      clear hs h1 h2 hp hN a1 a2 n1 n2 k1 k2 r1 r2 c1 c2 hbz hk2
      go_enter Try.func44, Try.ntmps44
      go_wp2_with (first
        | (go_at_call 43; (with_reducible refine (HS.out _).mono ?_); rintro e w' ⟨rfl, rfl⟩)
        | (go_at_call 23; (with_reducible refine (H1.out _).mono ?_); rintro e w' ⟨rfl, rfl⟩)
        | (go_at_call 23; (with_reducible refine (H2.out _).mono ?_); rintro e w' ⟨rfl, rfl⟩))
      refine bodyPost_ret (v := .agg #[.int .i64 r, .int .i64 c]) (by simp [results, Try.results44, go_sem]) rfl ⟨rfl, ?_⟩
      exact belA (belA (belA (belA (Below.refl _ _) _) _) _) _
    · have hd : decide (r < a) = false := decide_eq_false hlt
      by_cases hk : k = 0
      · subst hk
        rw [show moveZ r c 0 a n = (r + n, c) by unfold moveZ; rw [hbz, if_neg (hN a hlt), if_pos rfl]]
        have hw : IntKind.i64.wrap (r + n) = r + n := by rw [IntKind.wrap_i64]; omega
        clear hs h1 h2 hp hN a1 a2 n1 n2 k1 k2 r1 r2 c1 c2 hbz hk2 hkb hlt
        go_enter Try.func44, Try.ntmps44
        go_wp2_with (first
          | (go_at_call 43; (with_reducible refine (HS.out _).mono ?_); rintro e w' ⟨rfl, rfl⟩)
          | (go_at_call 23; (with_reducible refine (H1.out _).mono ?_); rintro e w' ⟨rfl, rfl⟩)
          | (go_at_call 23; (with_reducible refine (H2.out _).mono ?_); rintro e w' ⟨rfl, rfl⟩))
        refine bodyPost_ret (v := .agg #[.int .i64 (r + n), .int .i64 c]) (by simp [results, Try.results44, go_sem]) rfl ⟨rfl, ?_⟩
        exact belA (belA (belA (belA (Below.refl _ _) _) _) _) _
      · have hk0 : (k == 0) = false := by simpa using hk
        have hw : IntKind.i64.wrap (r - n) = r - n := by rw [IntKind.wrap_i64]; omega
        have hw2 : IntKind.i64.wrap (r - a) = r - a := by rw [IntKind.wrap_i64]; omega
        by_cases hl : r < a + n
        · rw [show moveZ r c k a n = (a, 0) by unfold moveZ; rw [hbz, if_neg (hN a hlt), if_neg hk, if_pos hl]]
          have hd2 : decide (r - a < n) = true := decide_eq_true (by omega)
          clear hs h1 h2 hp hN a1 a2 n1 n2 k1 k2 r1 r2 c1 c2 hbz hk2 hlt hk hw hl
          go_enter Try.func44, Try.ntmps44
          go_wp2_with (first
            | (go_at_call 43; (with_reducible refine (HS.out _).mono ?_); rintro e w' ⟨rfl, rfl⟩)
            | (go_at_call 23; (with_reducible refine (H1.out _).mono ?_); rintro e w' ⟨rfl, rfl⟩)
            | (go_at_call 23; (with_reducible refine (H2.out _).mono ?_); rintro e w' ⟨rfl, rfl⟩))
          refine bodyPost_ret (v := .agg #[.int .i64 a, .int .i64 0]) (by simp [results, Try.results44, go_sem]) rfl ⟨rfl, ?_⟩
          exact belA (belA (belA (belA (Below.refl _ _) _) _) _) _
        · rw [show moveZ r c k a n = (r - n, c) by unfold moveZ; rw [hbz, if_neg (hN a hlt), if_neg hk, if_neg hl]]
          have hd2 : decide (r - a < n) = false := decide_eq_false (by omega)
          clear hs h1 h2 hp hN a1 a2 n1 n2 k1 k2 r1 r2 c1 c2 hbz hk2 hlt hk hl
          go_enter Try.func44, Try.ntmps44
          go_wp2_with (first
            | (go_at_call 43; (with_reducible refine (HS.out _).mono ?_); rintro e w' ⟨rfl, rfl⟩)
            | (go_at_call 23; (with_reducible refine (H1.out _).mono ?_); rintro e w' ⟨rfl, rfl⟩)
            | (go_at_call 23; (with_reducible refine (H2.out _).mono ?_); rintro e w' ⟨rfl, rfl⟩))
          refine bodyPost_ret (v := .agg #[.int .i64 (r - n), .int .i64 c]) (by simp [results, Try.results44, go_sem]) rfl ⟨rfl, ?_⟩
          exact belA (belA (belA (belA (Below.refl _ _) _) _) _) _
end Go.Proofs.Ytnkdbpbfapdfeaa
