/- The law ShiftOrder. -/
import Derived.Test.YtbloekdhafoniaaEi
namespace Go.Proofs.Ytbloekdhafoniaa
open Go.RowKit

theorem move_cols (r c k a n : Int) (hp : okP r c = true) : num (moveZ r c k a n).2 = true := by
  have hc : num c = true := by simp only [okP, Bool.and_eq_true] at hp; exact hp.2
  unfold moveZ
  split
  · exact hc
  · split
    · exact hc
    · split
      · rfl
      · exact hc
theorem keep_order (r c s d k a n : Int) (hp : okP r c = true) (hq : okP s d = true) (h : lessB s d r c = false) :
    lessB (moveZ s d k a n).1 (moveZ s d k a n).2 (moveZ r c k a n).1 (moveZ r c k a n).2 = false := by
  have h1 : ¬ (s < r ∨ s = r ∧ d < c) := of_decide_eq_false h
  obtain ⟨p1, p2, p3, p4⟩ := okP_t hp
  obtain ⟨q1, q2, q3, q4⟩ := okP_t hq
  cases hs : okS k a n with
  | false =>
    rw [show moveZ s d k a n = (s, d) from if_pos (.inr (.inl hs)), show moveZ r c k a n = (r, c) from if_pos (.inr (.inl hs))]
    exact h
  | true =>
    obtain ⟨a1, a2, n1, n2, k1, k2⟩ := okS_t hs
    have e : ∀ x y, okP x y = true → moveZ x y k a n = if x < begZ k a then (x, y) else if k = 0 then (x + n, y) else if x < begZ k a + n then (begZ k a, 0) else (x - n, y) := fun x y hxy => by
      unfold moveZ
      by_cases hx : x < begZ k a
      · rw [if_pos hx, if_pos (.inr (.inr hx))]
      · rw [if_neg hx, if_neg (by rw [hxy, hs]; simp; omega)]
    rw [e s d hq, e r c hp]
    generalize begZ k a = z
    refine decide_eq_false ?_
    by_cases g1 : s < z
    · rw [if_pos g1, if_pos (show r < z by omega)]
      exact h1
    · rw [if_neg g1]
      by_cases g2 : r < z
      · rw [if_pos g2]
        split
        · simp only; omega
        · split
          · simp only; omega
          · simp only; omega
      · rw [if_neg g2]
        split
        · simp only; omega
        · by_cases g3 : s < z + n
          · rw [if_pos g3, if_pos (show r < z + n by omega)]
            simp only; omega
          · rw [if_neg g3]
            split
            · simp only; omega
            · simp only; omega

theorem seven_step {wr W W' : World} {a b : Nat} {p1 p2 p3 : Addr} {v1 v2 v3 v4 v5 v6 v7 : Value} (h : (W.cell? ⟨a, 0, none⟩ = some v1 ∧ W.cell? ⟨a, 1, none⟩ = some v2 ∧ W.cell? ⟨b, 0, none⟩ = some v3 ∧ W.cell? ⟨b, 1, none⟩ = some v4 ∧ W.cell? p1 = some v5 ∧ W.cell? p2 = some v6 ∧ W.cell? p3 = some v7) ∧ (a < W.heap.size ∧ b < W.heap.size ∧ p1.block < W.heap.size ∧ p2.block < W.heap.size ∧ p3.block < W.heap.size) ∧ Below wr.heap.size wr W) (hb : Below W.heap.size W W') :
    (W'.cell? ⟨a, 0, none⟩ = some v1 ∧ W'.cell? ⟨a, 1, none⟩ = some v2 ∧ W'.cell? ⟨b, 0, none⟩ = some v3 ∧ W'.cell? ⟨b, 1, none⟩ = some v4 ∧ W'.cell? p1 = some v5 ∧ W'.cell? p2 = some v6 ∧ W'.cell? p3 = some v7) ∧ (a < W'.heap.size ∧ b < W'.heap.size ∧ p1.block < W'.heap.size ∧ p2.block < W'.heap.size ∧ p3.block < W'.heap.size) ∧ Below wr.heap.size wr W' := by
  obtain ⟨⟨e1, e2, e3, e4, e5, e6, e7⟩, ⟨l1, l2, l3, l4, l5⟩, hB⟩ := h
  have hs := hb.size
  exact ⟨⟨(hb.cell (p := ⟨a, 0, none⟩) l1).trans e1, (hb.cell (p := ⟨a, 1, none⟩) l1).trans e2, (hb.cell (p := ⟨b, 0, none⟩) l2).trans e3, (hb.cell (p := ⟨b, 1, none⟩) l2).trans e4, (hb.cell l3).trans e5, (hb.cell l4).trans e6, (hb.cell l5).trans e7⟩, ⟨by omega, by omega, by omega, by omega, by omega⟩, bel0 hB hb⟩

theorem seven_below {wr W : World} {a b : Nat} {p1 p2 p3 : Addr} {v1 v2 v3 v4 v5 v6 v7 : Value} (h : (W.cell? ⟨a, 0, none⟩ = some v1 ∧ W.cell? ⟨a, 1, none⟩ = some v2 ∧ W.cell? ⟨b, 0, none⟩ = some v3 ∧ W.cell? ⟨b, 1, none⟩ = some v4 ∧ W.cell? p1 = some v5 ∧ W.cell? p2 = some v6 ∧ W.cell? p3 = some v7) ∧ (a < W.heap.size ∧ b < W.heap.size ∧ p1.block < W.heap.size ∧ p2.block < W.heap.size ∧ p3.block < W.heap.size) ∧ Below wr.heap.size wr W) : Below wr.heap.size wr W := h.2.2
theorem new2 (w : World) (o o' : Obj) : ((w.alloc o).alloc o').heap[w.heap.size + 1]? = some o' := by
  have h := heap_alloc_new (w.alloc o) o'
  rwa [show (w.alloc o).heap.size = w.heap.size + 1 by simp] at h
theorem fresh {W : World} {g : Nat} {a b : Value} {t : TypeId} (h : W.heap[g]? = some (.cells #[a, b] t (0, 0))) : W.cell? ⟨g, 0, none⟩ = some a ∧ W.cell? ⟨g, 1, none⟩ = some b ∧ (∀ k, W.frozen? ⟨g, k, none⟩ = false) ∧ g < W.heap.size := ⟨cell_of_row _ _ 0 _ _ _ h, cell_of_row _ _ 1 _ _ _ h, unfrozen_of h, (Array.getElem?_eq_some_iff.1 h).1⟩
theorem lt_of_cell' {w : World} {b o : Nat} {v : Value} (h : w.cell? ⟨b, o, none⟩ = some v) : b < w.heap.size := by
  rcases Nat.lt_or_ge b w.heap.size with hl | hl
  · exact hl
  · simp [World.cell?, Array.getElem?_eq_none hl] at h
def C4 (W : World) (g h : Nat) (x y u v : Int) : Prop := W.cell? ⟨g, 0, none⟩ = some (.int .i64 x) ∧ W.cell? ⟨g, 1, none⟩ = some (.int .i64 y) ∧ W.cell? ⟨h, 0, none⟩ = some (.int .i64 u) ∧ W.cell? ⟨h, 1, none⟩ = some (.int .i64 v)
def S7 (wr W : World) (a b : Nat) (p1 p2 p3 : Addr) (v1 v2 v3 v4 v5 v6 v7 : Value) : Prop := (W.cell? ⟨a, 0, none⟩ = some v1 ∧ W.cell? ⟨a, 1, none⟩ = some v2 ∧ W.cell? ⟨b, 0, none⟩ = some v3 ∧ W.cell? ⟨b, 1, none⟩ = some v4 ∧ W.cell? p1 = some v5 ∧ W.cell? p2 = some v6 ∧ W.cell? p3 = some v7) ∧ (a < W.heap.size ∧ b < W.heap.size ∧ p1.block < W.heap.size ∧ p2.block < W.heap.size ∧ p3.block < W.heap.size) ∧ Below wr.heap.size wr W
theorem S7.step {wr W W' : World} {a b : Nat} {p1 p2 p3 : Addr} {v1 v2 v3 v4 v5 v6 v7 : Value} (h : S7 wr W a b p1 p2 p3 v1 v2 v3 v4 v5 v6 v7) (hb : Below W.heap.size W W') : (W'.cell? ⟨a, 0, none⟩ = some v1 ∧ W'.cell? ⟨a, 1, none⟩ = some v2 ∧ W'.cell? ⟨b, 0, none⟩ = some v3 ∧ W'.cell? ⟨b, 1, none⟩ = some v4 ∧ W'.cell? p1 = some v5 ∧ W'.cell? p2 = some v6 ∧ W'.cell? p3 = some v7) ∧ (a < W'.heap.size ∧ b < W'.heap.size ∧ p1.block < W'.heap.size ∧ p2.block < W'.heap.size ∧ p3.block < W'.heap.size) ∧ Below wr.heap.size wr W' := seven_step h hb
set_option maxHeartbeats 60000000 in
theorem shiftOrder_law (r c s d : Int) (A : Option Addr) (l : List (Int × Int × Int)) (n cp : Nat) (hn : n = l.length) (w : World) (hR : RSh w w.heap.size A l) :
    Calls Try.prog 6 #[.agg #[.int .i64 r, .int .i64 c], .agg #[.int .i64 s, .int .i64 d], .slice A n cp] w fun e w' => e = .returned (.bool true) ∧ Below w.heap.size w w' := by
  by_cases h100 : (100 : Int) < n
  · clear hR hn
    go_enter Try.func6, Try.ntmps6
    go_wp2_with (go_at_call 16; (with_reducible refine (awake_any _).mono ?_); rintro e w0 ⟨rfl, hb0⟩; have HB0 := Lib.hid hb0; clear hb0)
    go_ret
    exact ⟨rfl, bel2 (Below.refl _ _) HB0.out⟩
  have hdn : decide (100 < (n : Int)) = false := decide_eq_false h100
  cases h1 : num r with
  | false =>
    have H1 := Lib.hid (refRight_as r _ h1)
    clear hR hn h100 h1
    go_enter Try.func6, Try.ntmps6
    go_wp2_with (first
      | (go_at_call 11; (with_reducible refine (H1.out _).mono ?_); rintro e w' ⟨rfl, rfl⟩)
      | (go_at_call 16; (with_reducible refine (awake_any _).mono ?_); rintro e w0 ⟨rfl, hb0⟩; have HB0 := Lib.hid hb0; clear hb0))
    go_ret
    exact ⟨rfl, bel2 (Below.refl _ _) HB0.out⟩
  | true =>
  have H1 := Lib.hid (refRight_as r _ h1)
  cases h2 : num c with
  | false =>
    have H2 := Lib.hid (refRight_as c _ h2)
    clear hR hn h100 h1 h2
    go_enter Try.func6, Try.ntmps6
    go_wp2_with (first
      | (go_at_call 11; (with_reducible refine (H1.out _).mono ?_); rintro e w' ⟨rfl, rfl⟩)
      | (go_at_call 11; (with_reducible refine (H2.out _).mono ?_); rintro e w' ⟨rfl, rfl⟩)
      | (go_at_call 16; (with_reducible refine (awake_any _).mono ?_); rintro e w0 ⟨rfl, hb0⟩; have HB0 := Lib.hid hb0; clear hb0))
    go_ret
    exact ⟨rfl, bel2 (Below.refl _ _) HB0.out⟩
  | true =>
  have H2 := Lib.hid (refRight_as c _ h2)
  cases h3 : num s with
  | false =>
    have H3 := Lib.hid (refRight_as s _ h3)
    clear hR hn h100 h1 h2 h3
    go_enter Try.func6, Try.ntmps6
    go_wp2_with (first
      | (go_at_call 11; (with_reducible refine (H1.out _).mono ?_); rintro e w' ⟨rfl, rfl⟩)
      | (go_at_call 11; (with_reducible refine (H2.out _).mono ?_); rintro e w' ⟨rfl, rfl⟩)
      | (go_at_call 11; (with_reducible refine (H3.out _).mono ?_); rintro e w' ⟨rfl, rfl⟩)
      | (go_at_call 16; (with_reducible refine (awake_any _).mono ?_); rintro e w0 ⟨rfl, hb0⟩; have HB0 := Lib.hid hb0; clear hb0))
    go_ret
    exact ⟨rfl, bel2 (Below.refl _ _) HB0.out⟩
  | true =>
  have H3 := Lib.hid (refRight_as s _ h3)
  cases h4 : num d with
  | false =>
    have H4 := Lib.hid (refRight_as d _ h4)
    clear hR hn h100 h1 h2 h3 h4
    go_enter Try.func6, Try.ntmps6
    go_wp2_with (first
      | (go_at_call 11; (with_reducible refine (H1.out _).mono ?_); rintro e w' ⟨rfl, rfl⟩)
      | (go_at_call 11; (with_reducible refine (H2.out _).mono ?_); rintro e w' ⟨rfl, rfl⟩)
      | (go_at_call 11; (with_reducible refine (H3.out _).mono ?_); rintro e w' ⟨rfl, rfl⟩)
      | (go_at_call 11; (with_reducible refine (H4.out _).mono ?_); rintro e w' ⟨rfl, rfl⟩)
      | (go_at_call 16; (with_reducible refine (awake_any _).mono ?_); rintro e w0 ⟨rfl, hb0⟩; have HB0 := Lib.hid hb0; clear hb0))
    go_ret
    exact ⟨rfl, bel2 (Below.refl _ _) HB0.out⟩
  | true =>
  have H4 := Lib.hid (refRight_as d _ h4)
  cases h5 : lessB s d r c with
  | true =>
    have H5 := Lib.hid (refLess_as s d r c _ h5)
    clear hR hn h100 h1 h2 h3 h4 h5
    go_enter Try.func6, Try.ntmps6
    go_wp2_with (first
      | (go_at_call 11; (with_reducible refine (H1.out _).mono ?_); rintro e w' ⟨rfl, rfl⟩)
      | (go_at_call 11; (with_reducible refine (H2.out _).mono ?_); rintro e w' ⟨rfl, rfl⟩)
      | (go_at_call 11; (with_reducible refine (H3.out _).mono ?_); rintro e w' ⟨rfl, rfl⟩)
      | (go_at_call 11; (with_reducible refine (H4.out _).mono ?_); rintro e w' ⟨rfl, rfl⟩)
      | (go_at_call 19; (with_reducible refine (H5.out _).mono ?_); rintro e w1 ⟨rfl, hb⟩; have HB1 := Lib.hid (bel2 (Below.refl w.heap.size w) hb); clear hb)
      | (go_at_call 16; (with_reducible refine (awake_any _).mono ?_); rintro e w0 ⟨rfl, hb0⟩; have HB0 := Lib.hid (bel0 HB1.out hb0); clear hb0))
    go_ret
    exact ⟨rfl, HB0.out⟩
  | false =>
  have H5 := Lib.hid (refLess_as s d r c _ h5)
  have HP0 : Hid (okP r c = true) := Lib.hid (by rw [okP, h1, h2]; rfl)
  have HQ0 : Hid (okP s d = true) := Lib.hid (by rw [okP, h3, h4]; rfl)
  have HL0 := Lib.hid h5
  have HR := Lib.hid hR
  have HN := Lib.hid hn
  have hn100 : (n : Int) ≤ 100 := by omega
  clear hR hn h100 h1 h2 h3 h4 h5
  go_enter Try.func6, Try.ntmps6
  go_wp2_with (first
    | (go_at_call 11; (with_reducible refine (H1.out _).mono ?_); rintro e w' ⟨rfl, rfl⟩)
    | (go_at_call 11; (with_reducible refine (H2.out _).mono ?_); rintro e w' ⟨rfl, rfl⟩)
    | (go_at_call 11; (with_reducible refine (H3.out _).mono ?_); rintro e w' ⟨rfl, rfl⟩)
    | (go_at_call 11; (with_reducible refine (H4.out _).mono ?_); rintro e w' ⟨rfl, rfl⟩)
    | (go_at_call 19; (with_reducible refine (H5.out _).mono ?_); rintro e w1 ⟨rfl, hb⟩; have HP1 : Hid (PB w1 w.heap.size r c) := Lib.hid (keep hb (old1 (heap_alloc_new w _))); have hq1 := keep hb (heap_alloc_new (w.alloc _) _); rw [show (w.alloc (.cells #[.int .i64 r, .int .i64 c] 23)).heap.size = w.heap.size + 1 by simp] at hq1; have HQ1 : Hid (PB w1 (w.heap.size + 1) s d) := Lib.hid hq1; have HB1 := Lib.hid (bel2 (Below.refl w.heap.size w) hb); clear hb hq1))
  clear H1 H2 H3 H4 H5
  go_loopw [7] (fun is wr => ∃ (k : Nat) (x y u v : Int), is = .int .i64 k ∧ k ≤ n ∧ Hid (okP x y = true) ∧ Hid (okP u v = true) ∧ Hid (lessB u v x y = false) ∧ Hid (PB wr w.heap.size x y) ∧ Hid (PB wr (w.heap.size + 1) u v) ∧ Hid (Below w.heap.size w wr)) (fun is _ => n - (intOf is).toNat)
  case atStart => exact ⟨0, r, c, s, d, rfl, Nat.zero_le _, HP0, HQ0, HL0, HP1, HQ1, HB1⟩
  case round =>
    clear HP0 HQ0 HL0 HP1 HQ1 HB1
    obtain ⟨k, x, y, u, v, rfl, hk, HOP, HOQ, HOL, HP, HQ, HB⟩ := hrel
    by_cases hlt : k < n
    · obtain ⟨b, off, a1, a2, a3, rfl, hbl, _, k0, k1, k2⟩ := HR.out.at HB.out k (by have := HN.out; omega)
      have hki : (k : Int) < n := by omega
      have HM1 := Lib.hid (move_any x y a1 a2 a3)
      have HM2 := Lib.hid (move_any u v a1 a2 a3)
      have HL2 := Lib.hid (keep_order x y u v a1 a2 a3 HOP.out HOQ.out HOL.out)
      have HC1 := Lib.hid (move_cols x y a1 a2 a3 HOP.out)
      have HC2 := Lib.hid (move_cols u v a1 a2 a3 HOQ.out)
      generalize (moveZ x y a1 a2 a3).1 = x' at *
      generalize (moveZ x y a1 a2 a3).2 = y' at *
      generalize (moveZ u v a1 a2 a3).1 = u' at *
      generalize (moveZ u v a1 a2 a3).2 = v' at *
      have hbw : b < wr.heap.size := Nat.lt_of_lt_of_le hbl HB.out.size
      have k3 := HP.out.c0
      have k4 := HP.out.c1
      have k5 := HQ.out.c0
      have k6 := HQ.out.c1
      have l1 := HP.out.lt
      have l2 := HQ.out.lt
      clear HOP HOQ HOL hbl
      go_upto_region 6 with fail
      go_cut [8, 9] (fun s8 s9 wx => ∃ g h, s8 = .pointer (some ⟨g, 0, none⟩) ∧ s9 = .pointer (some ⟨h, 0, none⟩) ∧ C4 wx g h x' y' u' v' ∧ (wr.heap.size ≤ g ∧ wr.heap.size ≤ h) ∧ Below wr.heap.size wr wx)
      case first =>
        have HS0 : Hid (S7 wr wr w.heap.size (w.heap.size + 1) ⟨b, off + k * 3, none⟩ ⟨b, off + k * 3 + 1, none⟩ ⟨b, off + k * 3 + 2, none⟩ (.int .i64 x) (.int .i64 y) (.int .i64 u) (.int .i64 v) (.int .i64 a1) (.int .i64 a2) (.int .i64 a3)) := Lib.hid ⟨⟨k3, k4, k5, k6, k0, k1, k2⟩, ⟨l1, l2, hbw, hbw, hbw⟩, Below.refl _ _⟩
        have hSd := HS0.out.step (Below.refl wr.heap.size wr).drew
        clear k0 k1 k2 k3 k4 k5 k6
        go_region_held3 (fun W => (W.cell? ⟨w.heap.size, 0, none⟩ = some (.int .i64 x) ∧ W.cell? ⟨w.heap.size, 1, none⟩ = some (.int .i64 y) ∧ W.cell? ⟨w.heap.size + 1, 0, none⟩ = some (.int .i64 u) ∧ W.cell? ⟨w.heap.size + 1, 1, none⟩ = some (.int .i64 v) ∧ W.cell? ⟨b, off + k * 3, none⟩ = some (.int .i64 a1) ∧ W.cell? ⟨b, off + k * 3 + 1, none⟩ = some (.int .i64 a2) ∧ W.cell? ⟨b, off + k * 3 + 2, none⟩ = some (.int .i64 a3)) ∧ (w.heap.size < W.heap.size ∧ w.heap.size + 1 < W.heap.size ∧ b < W.heap.size ∧ b < W.heap.size ∧ b < W.heap.size) ∧ Below wr.heap.size wr W)
          (first | exact hSd | assumption | (refine S7.step HS0.out ?_; repeat (first | exact HB9.out | exact HB8.out | exact Below.refl _ _ | refine Below.drew ?_ | refine belA ?_ _ | refine belC ?_ (by omega))))
          (first
            | (go_at_call 12; (with_reducible refine (HM1.out _).mono ?_); rintro e8 w8 ⟨rfl, hbx⟩; obtain ⟨hc, hf⟩ := bcell hbx; have HB8 : Hid (Below wr.heap.size wr w8) := Lib.hid (bel0 (seven_below (p1 := ⟨b, off + k * 3, none⟩) (p2 := ⟨b, off + k * 3 + 1, none⟩) (p3 := ⟨b, off + k * 3 + 2, none⟩) (by assumption)) hbx); (try (have za := keep hbx (heap_alloc_new wr (.cells #[.int .i64 0, .int .i64 0] 23)); obtain ⟨ea0, ea1, eaf, eal⟩ := fresh za)); (try (have zb := keep hbx (old1 (heap_alloc_new wr (.cells #[.int .i64 0, .int .i64 0] 23))); have zc := keep hbx (new2 wr (.cells #[.int .i64 0, .int .i64 0] 23) (.cells #[.int .i64 0, .int .i64 0] 23)); obtain ⟨eb0, eb1, ebf, ebl⟩ := fresh zb; obtain ⟨ec0, ec1, ecf, ecl⟩ := fresh zc)); clear hc hf; have hw8 := HB8.out.size)
            | (go_at_call 12; (with_reducible refine (HM2.out _).mono ?_); rintro e9 w9 ⟨rfl, hbx⟩; obtain ⟨hc9, hf9⟩ := bcell hbx; have HB9 : Hid (Below wr.heap.size wr w9) := Lib.hid (bel0 (seven_below (p1 := ⟨b, off + k * 3, none⟩) (p2 := ⟨b, off + k * 3 + 1, none⟩) (p3 := ⟨b, off + k * 3 + 2, none⟩) (by assumption)) hbx); (try (have zd := keep hbx (heap_alloc_new w8 (.cells #[.int .i64 0, .int .i64 0] 23)); obtain ⟨ed0, ed1, edf, edl⟩ := fresh zd)); (try (have ze := keep hbx (old1 (heap_alloc_new w8 (.cells #[.int .i64 0, .int .i64 0] 23))); have zf := keep hbx (new2 w8 (.cells #[.int .i64 0, .int .i64 0] 23) (.cells #[.int .i64 0, .int .i64 0] 23)); obtain ⟨ee0, ee1, eef, eel⟩ := fresh ze; obtain ⟨eg0, eg1, egf, egl⟩ := fresh zf)); (try (have zg := keep hbx za; obtain ⟨eh0, eh1, ehf, ehl⟩ := fresh zg)); (try (have zh := keep hbx (old1 za); obtain ⟨ei0, ei1, eif, eil⟩ := fresh zh)); (try (have zi := keep hbx zb; have zj := keep hbx zc; obtain ⟨ej0, ej1, ejf, ejl⟩ := fresh zi; obtain ⟨ek0, ek1, ekf, ekl⟩ := fresh zj)); clear hc9 hf9; have hw9 := HB9.out.size))
        all_goals
          go_wp2_with fail
          go_meet
          (refine ⟨_, _, rfl, rfl, ?_, ⟨by omega, by omega⟩, seven_below (p1 := ⟨b, off + k * 3, none⟩) (p2 := ⟨b, off + k * 3 + 1, none⟩) (p3 := ⟨b, off + k * 3 + 2, none⟩) (by assumption)⟩)
          unfold C4
          go_simp
      case rest =>
        obtain ⟨ga, gb, rfl, rfl, hC, ⟨hgea, hgeb⟩, hB⟩ := hcut
        obtain ⟨e0, e1, e2, e3⟩ := hC
        have HPc := Lib.hid (HP.out.past hB)
        have HQc := Lib.hid (HQ.out.past hB)
        have HBc := Lib.hid (bel0 HB.out hB)
        have hga := lt_of_cell' e0
        have hgb := lt_of_cell' e2
        have hn1 : ga ≠ w.heap.size := by omega
        have hn2 : ga ≠ w.heap.size + 1 := by omega
        have hn3 : gb ≠ w.heap.size := by omega
        have hn4 : gb ≠ w.heap.size + 1 := by omega
        have hn5 : w.heap.size ≠ ga := by omega
        have hn6 : w.heap.size + 1 ≠ ga := by omega
        have hn7 : w.heap.size ≠ gb := by omega
        have hn8 : w.heap.size + 1 ≠ gb := by omega
        clear HM1 HM2 HP HQ HB hB k0 k1 k2 k3 k4 k5 k6 l1 l2 hbw
        cases h1 : num x' with
        | false =>
          have H1 := Lib.hid (refRight_as x' _ h1)
          clear h1 HR HN
          go_wp2_with (first
            | (go_at_call 11; (with_reducible refine (H1.out _).mono ?_); rintro e w' ⟨rfl, rfl⟩)
            | (go_at_call 16; (with_reducible refine (awake_any _).mono ?_); rintro e w0 ⟨rfl, hb0⟩; have HB0 := Lib.hid (bel0 HBc.out hb0); clear hb0))
          go_ret
          exact ⟨rfl, HB0.out⟩
        | true =>
        have H1 := Lib.hid (refRight_as x' _ h1)
        cases h2 : num u' with
        | false =>
          have H2 := Lib.hid (refRight_as u' _ h2)
          clear h1 h2 HR HN
          go_wp2_with (first
            | (go_at_call 11; (with_reducible refine (H1.out _).mono ?_); rintro e w' ⟨rfl, rfl⟩)
            | (go_at_call 11; (with_reducible refine (H2.out _).mono ?_); rintro e w' ⟨rfl, rfl⟩)
            | (go_at_call 16; (with_reducible refine (awake_any _).mono ?_); rintro e w0 ⟨rfl, hb0⟩; have HB0 := Lib.hid (bel0 HBc.out hb0); clear hb0))
          go_ret
          exact ⟨rfl, HB0.out⟩
        | true =>
          have H2 := Lib.hid (refRight_as u' _ h2)
          have HOP' : Hid (okP x' y' = true) := Lib.hid (by rw [okP, h1, HC1.out]; rfl)
          have HOQ' : Hid (okP u' v' = true) := Lib.hid (by rw [okP, h2, HC2.out]; rfl)
          have HLS := Lib.hid (less_as u' v' x' y' _ HL2.out)
          have p0 := HPc.out.c0
          have p1 := HPc.out.c1
          have pf := HPc.out.free
          have q0 := HQc.out.c0
          have q1 := HQc.out.c1
          have qf := HQc.out.free
          have hpl := HPc.out.lt
          have hql := HQc.out.lt
          clear h1 h2
          go_wp2_with (first
            | (go_at_call 11; (with_reducible refine (H1.out _).mono ?_); rintro e w' ⟨rfl, rfl⟩)
            | (go_at_call 11; (with_reducible refine (H2.out _).mono ?_); rintro e w' ⟨rfl, rfl⟩))
          have HPn : Hid (PB (((((wc.setCell ⟨w.heap.size, 0, none⟩ (.int .i64 x')).setCell ⟨w.heap.size, 1, none⟩ (.int .i64 y')).setCell ⟨w.heap.size + 1, 0, none⟩ (.int .i64 u')).setCell ⟨w.heap.size + 1, 1, none⟩ (.int .i64 v')).drew) w.heap.size x' y') := Lib.hid (((HPc.out.set x' y').other _ _ (by omega)).other _ _ (by omega))
          have HQn : Hid (PB (((((wc.setCell ⟨w.heap.size, 0, none⟩ (.int .i64 x')).setCell ⟨w.heap.size, 1, none⟩ (.int .i64 y')).setCell ⟨w.heap.size + 1, 0, none⟩ (.int .i64 u')).setCell ⟨w.heap.size + 1, 1, none⟩ (.int .i64 v')).drew) (w.heap.size + 1) u' v') := Lib.hid (PB.set ((HQc.out.other _ _ (by omega)).other _ _ (by omega)) u' v')
          have HBn : Hid (Below w.heap.size w (((((wc.setCell ⟨w.heap.size, 0, none⟩ (.int .i64 x')).setCell ⟨w.heap.size, 1, none⟩ (.int .i64 y')).setCell ⟨w.heap.size + 1, 0, none⟩ (.int .i64 u')).setCell ⟨w.heap.size + 1, 1, none⟩ (.int .i64 v')).drew)) := Lib.hid (belC (belC (belC (belC HBc.out (by omega)) (by omega)) (by omega)) (by omega)).drew
          go_region
          clear p0 p1 pf q0 q1 qf hpl hql HPc HQc HBc e0 e1 e2 e3 hga hgb
          generalize (((((wc.setCell ⟨w.heap.size, 0, none⟩ (.int .i64 x')).setCell ⟨w.heap.size, 1, none⟩ (.int .i64 y')).setCell ⟨w.heap.size + 1, 0, none⟩ (.int .i64 u')).setCell ⟨w.heap.size + 1, 1, none⟩ (.int .i64 v')).drew) = wn at *
          have p0 := HPn.out.c0
          have p1 := HPn.out.c1
          have q0 := HQn.out.c0
          have q1 := HQn.out.c1
          go_wp2_with (go_at_call 20; (with_reducible refine (HLS.out _).mono ?_); rintro e w5 ⟨rfl, hb5⟩; have HP5 := Lib.hid (HPn.out.past hb5); have HQ5 := Lib.hid (HQn.out.past hb5); have HB5 := Lib.hid (bel0 HBn.out hb5); clear hb5)
          go_roundw
          case rel => exact ⟨k + 1, x', y', u', v', by go_num, hlt, HOP', HOQ', HL2, HP5, HQ5, HB5⟩
          case measure => simp [intOf]; omega
    · clear HR HN
      go_wp2_with (go_at_call 16; (with_reducible refine (awake_any _).mono ?_); rintro e w0 ⟨rfl, hb0⟩; have HB0 := Lib.hid (bel0 HB.out hb0); clear hb0)
      go_ret
      exact ⟨rfl, HB0.out⟩
end Go.Proofs.Ytbloekdhafoniaa
