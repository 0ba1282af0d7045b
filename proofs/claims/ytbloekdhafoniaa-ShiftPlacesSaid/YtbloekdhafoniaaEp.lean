/- The law ShiftPlaces. -/
import Derived.Test.YtbloekdhafoniaaEi
namespace Go.Proofs.Ytbloekdhafoniaa
open Go.RowKit

theorem beq_t (b : Bool) : (b == b) = true := by simp
/-- What is known of the boxes of a walk. -/
structure Four (w W : World) (P Q G H : Nat) (a b : Int × Int) (l m : Int × Int) : Prop where
  p : PB W P a.1 a.2
  q : PB W Q b.1 b.2
  g : PB W G l.1 l.2
  h : PB W H m.1 m.2
  below : Below w.heap.size w W
theorem Four.past {w W W' : World} {P Q G H : Nat} {a b l m : Int × Int} (h : Four w W P Q G H a b l m) (hb : Below W.heap.size W W') : Four w W' P Q G H a b l m := ⟨h.p.past hb, h.q.past hb, h.g.past hb, h.h.past hb, bel0 h.below hb⟩
theorem Four.set {w W : World} {P Q G H : Nat} {a b l m : Int × Int} (h : Four w W P Q G H a b l m) (h1 : P ≠ H) (h2 : Q ≠ H) (h3 : G ≠ H) (h0 : w.heap.size ≤ H) (x y : Int) : Four w ((W.setCell ⟨H, 0, none⟩ (.int .i64 x)).setCell ⟨H, 1, none⟩ (.int .i64 y)) P Q G H a b l (x, y) :=
  ⟨(h.p.other _ _ h1).other _ _ h1, (h.q.other _ _ h2).other _ _ h2, (h.g.other _ _ h3).other _ _ h3, h.h.set x y, belC (belC h.below h0) h0⟩
theorem PB.set1 {W : World} {g : Nat} {a b : Int} (h : PB W g a b) (y : Int) : PB (W.setCell ⟨g, 1, none⟩ (.int .i64 y)) g a y := heap_setCell_same W g 1 _ _ (.int .i64 y) h
theorem Four.set1 {w W : World} {P Q G H : Nat} {a b l : Int × Int} {m1 m2 : Int} (h : Four w W P Q G H a b l (m1, m2)) (h1 : P ≠ H) (h2 : Q ≠ H) (h3 : G ≠ H) (h0 : w.heap.size ≤ H) (y : Int) : Four w (W.setCell ⟨H, 1, none⟩ (.int .i64 y)) P Q G H a b l (m1, y) :=
  ⟨h.p.other _ _ h1, h.q.other _ _ h2, h.g.other _ _ h3, h.h.set1 y, belC h.below h0⟩
theorem belN (w : World) (n : Nat) : Below w.heap.size w (w.drewN n) := ⟨rfl, rfl, rfl, Nat.le_refl _, fun _ _ => rfl⟩
structure Three (w W : World) (P Q G : Nat) (a b : Int × Int) (l : Int × Int) : Prop where
  p : PB W P a.1 a.2
  q : PB W Q b.1 b.2
  g : PB W G l.1 l.2
  below : Below w.heap.size w W
theorem Three.past {w W W' : World} {P Q G : Nat} {a b l : Int × Int} (h : Three w W P Q G a b l) (hb : Below W.heap.size W W') : Three w W' P Q G a b l := ⟨h.p.past hb, h.q.past hb, h.g.past hb, bel0 h.below hb⟩
theorem Three.set {w W : World} {P Q G : Nat} {a b l : Int × Int} (h : Three w W P Q G a b l) (h1 : P ≠ G) (h2 : Q ≠ G) (h0 : w.heap.size ≤ G) (x y : Int) : Three w ((W.setCell ⟨G, 0, none⟩ (.int .i64 x)).setCell ⟨G, 1, none⟩ (.int .i64 y)) P Q G a b (x, y) :=
  ⟨(h.p.other _ _ h1).other _ _ h1, (h.q.other _ _ h2).other _ _ h2, h.g.set x y, belC (belC h.below h0) h0⟩

theorem quad_step {wr W W' : World} {a b g h : Nat} {v1 v2 v3 v4 v5 v6 v7 v8 : Value} (hh : (W.cell? ⟨a, 0, none⟩ = some v1 ∧ W.cell? ⟨a, 1, none⟩ = some v2 ∧ W.cell? ⟨b, 0, none⟩ = some v3 ∧ W.cell? ⟨b, 1, none⟩ = some v4 ∧ W.cell? ⟨g, 0, none⟩ = some v5 ∧ W.cell? ⟨g, 1, none⟩ = some v6 ∧ W.cell? ⟨h, 0, none⟩ = some v7 ∧ W.cell? ⟨h, 1, none⟩ = some v8) ∧ (a < W.heap.size ∧ b < W.heap.size ∧ g < W.heap.size ∧ h < W.heap.size) ∧ Below wr.heap.size wr W) (hb : Below W.heap.size W W') : (W'.cell? ⟨a, 0, none⟩ = some v1 ∧ W'.cell? ⟨a, 1, none⟩ = some v2 ∧ W'.cell? ⟨b, 0, none⟩ = some v3 ∧ W'.cell? ⟨b, 1, none⟩ = some v4 ∧ W'.cell? ⟨g, 0, none⟩ = some v5 ∧ W'.cell? ⟨g, 1, none⟩ = some v6 ∧ W'.cell? ⟨h, 0, none⟩ = some v7 ∧ W'.cell? ⟨h, 1, none⟩ = some v8) ∧ (a < W'.heap.size ∧ b < W'.heap.size ∧ g < W'.heap.size ∧ h < W'.heap.size) ∧ Below wr.heap.size wr W' := by
  obtain ⟨⟨e1, e2, e3, e4, e5, e6, e7, e8⟩, ⟨i1, i2, i3, i4⟩, hB⟩ := hh
  have hs := hb.size
  exact ⟨⟨(hb.cell (p := ⟨a, 0, none⟩) i1).trans e1, (hb.cell (p := ⟨a, 1, none⟩) i1).trans e2, (hb.cell (p := ⟨b, 0, none⟩) i2).trans e3, (hb.cell (p := ⟨b, 1, none⟩) i2).trans e4, (hb.cell (p := ⟨g, 0, none⟩) i3).trans e5, (hb.cell (p := ⟨g, 1, none⟩) i3).trans e6, (hb.cell (p := ⟨h, 0, none⟩) i4).trans e7, (hb.cell (p := ⟨h, 1, none⟩) i4).trans e8⟩, ⟨by omega, by omega, by omega, by omega⟩, bel0 hB hb⟩
theorem quad_below {wr W : World} {a b g h : Nat} {v1 v2 v3 v4 v5 v6 v7 v8 : Value} (hh : (W.cell? ⟨a, 0, none⟩ = some v1 ∧ W.cell? ⟨a, 1, none⟩ = some v2 ∧ W.cell? ⟨b, 0, none⟩ = some v3 ∧ W.cell? ⟨b, 1, none⟩ = some v4 ∧ W.cell? ⟨g, 0, none⟩ = some v5 ∧ W.cell? ⟨g, 1, none⟩ = some v6 ∧ W.cell? ⟨h, 0, none⟩ = some v7 ∧ W.cell? ⟨h, 1, none⟩ = some v8) ∧ (a < W.heap.size ∧ b < W.heap.size ∧ g < W.heap.size ∧ h < W.heap.size) ∧ Below wr.heap.size wr W) : Below wr.heap.size wr W := hh.2.2

set_option maxRecDepth 100000 in
set_option maxHeartbeats 8000000 in
theorem shiftPlaces_law (r c s d rows cols : Int) (w : World) :
    Calls Try.prog 8 #[.agg #[.int .i64 r, .int .i64 c], .agg #[.int .i64 s, .int .i64 d], .agg #[.int .i64 rows, .int .i64 cols]] w fun e w' => e = .returned (.bool true) ∧ Below w.heap.size w w' := by
  obtain ⟨bl, hbl⟩ : ∃ b, lessB r c s d = b := ⟨_, rfl⟩
  have HL := Lib.hid (less_as r c s d bl hbl)
  have HRL := Lib.hid (refLess_as r c s d bl hbl)
  have HLA := Lib.hid (later_any r c s d)
  have HCL := Lib.hid (clamp_any r c rows cols)
  have HLZ : Hid (laterZ r c s d = if bl = true then (s, d) else (r, c)) := Lib.hid (by unfold laterZ; rw [hbl])
  have HCZ : Hid (clampZ r c rows cols = if r < 0 then (0, 0) else if max rows 0 ≤ r then (max rows 0, 0) else (r, max (min c cols) 0)) := Lib.hid rfl
  generalize laterZ r c s d = lz at *
  generalize clampZ r c rows cols = cz at *
  have hbb := beq_t bl
  clear hbl
  go_enter Try.func8, Try.ntmps8
  go_wp2_with fail
  go_quiet (fail)
  have y0 : PB ((((w.alloc (.cells #[.int .i64 r, .int .i64 c] 23)).alloc (.cells #[.int .i64 s, .int .i64 d] 23)).alloc (.cells #[.int .i64 rows, .int .i64 cols] 40)).drewN nq) w.heap.size r c := old1 (old1 (heap_alloc_new w _))
  have y1 : PB ((((w.alloc (.cells #[.int .i64 r, .int .i64 c] 23)).alloc (.cells #[.int .i64 s, .int .i64 d] 23)).alloc (.cells #[.int .i64 rows, .int .i64 cols] 40)).drewN nq) (w.heap.size + 1) s d := by
    have h := old1 (o := .cells #[.int .i64 rows, .int .i64 cols] 40) (heap_alloc_new (w.alloc (.cells #[.int .i64 r, .int .i64 c] 23)) (.cells #[.int .i64 s, .int .i64 d] 23))
    rw [show (w.alloc (.cells #[.int .i64 r, .int .i64 c] 23)).heap.size = w.heap.size + 1 by simp] at h
    exact h
  have yb : Below w.heap.size w ((((w.alloc (.cells #[.int .i64 r, .int .i64 c] 23)).alloc (.cells #[.int .i64 s, .int .i64 d] 23)).alloc (.cells #[.int .i64 rows, .int .i64 cols] 40)).drewN nq) := bel0 (belA (belA (belA (Below.refl w.heap.size w) _) _) _) (belN _ nq)
  generalize ((((w.alloc (.cells #[.int .i64 r, .int .i64 c] 23)).alloc (.cells #[.int .i64 s, .int .i64 d] 23)).alloc (.cells #[.int .i64 rows, .int .i64 cols] 40)).drewN nq) = wq at *
  have HT : Hid (Three w (wq.alloc (.cells #[.int .i64 r, .int .i64 c] 23)) w.heap.size (w.heap.size + 1) wq.heap.size (r, c) (s, d) (r, c)) := Lib.hid ⟨y0.alloc _, y1.alloc _, PB.new wq r c, belA yb _⟩
  have hG1 : w.heap.size ≠ wq.heap.size := by have := y0.lt; omega
  have hG2 : w.heap.size + 1 ≠ wq.heap.size := by have := y1.lt; omega
  have hG3 : w.heap.size ≤ wq.heap.size := yb.size
  have k0 := y0.c0
  have k1 := y0.c1
  have k2 := y1.c0
  have k3 := y1.c1
  have kl0 := y0.lt
  have kl1 := y1.lt
  clear y0 y1 yb
  go_upto_if 18 with (go_at_call 19; (with_reducible refine (HRL.out _).mono ?_); rintro e w1 ⟨rfl, hb1⟩; have HT1 := Lib.hid (HT.out.past hb1); clear hb1)
  clear k0 k1 k2 k3 kl0 kl1 HT
  generalize wq.heap.size = G at *
  go_cut [9] (fun s9 wx => s9 = .pointer (some ⟨G, 0, none⟩) ∧ Hid (Three w wx w.heap.size (w.heap.size + 1) G (r, c) (s, d) lz))
  case first =>
    have k2 := HT1.out.q.c0
    have k3 := HT1.out.q.c1
    have k4 := HT1.out.g.c0
    have k5 := HT1.out.g.c1
    have kf := HT1.out.g.free
    have kl1 := HT1.out.q.lt
    cases bl with
    | true =>
      have HTn := Lib.hid (HT1.out.set hG1 hG2 hG3 s d)
      have hz : lz = (s, d) := HLZ.out
      subst hz
      go_wp2
      go_meet
      exact ⟨rfl, HTn⟩
    | false =>
      have hz : lz = (r, c) := HLZ.out
      subst hz
      go_wp2
      go_meet
      exact ⟨rfl, HT1⟩
  case rest =>
  obtain ⟨rfl, HT2⟩ := hcut
  clear HT1 HLZ
  have k0 := HT2.out.p.c0
  have k1 := HT2.out.p.c1
  have hH0 : G ≠ wc.heap.size := by have := HT2.out.g.lt; omega
  have hH1 : w.heap.size ≠ wc.heap.size := by have := HT2.out.p.lt; omega
  have hH2 : w.heap.size + 1 ≠ wc.heap.size := by have := HT2.out.q.lt; omega
  have hH3 : w.heap.size ≤ wc.heap.size := HT2.out.below.size
  have HF : Hid (Four w (wc.alloc (.cells #[.int .i64 r, .int .i64 c] 23)) w.heap.size (w.heap.size + 1) G wc.heap.size (r, c) (s, d) lz (r, c)) := Lib.hid ⟨HT2.out.p.alloc _, HT2.out.q.alloc _, HT2.out.g.alloc _, PB.new wc r c, belA HT2.out.below _⟩
  go_upto_if 24 with fail
  clear k0 k1 HT2
  generalize wc.alloc (.cells #[.int .i64 r, .int .i64 c] 23) = wd at *
  generalize wc.heap.size = H at *
  obtain ⟨c1, hc1⟩ : ∃ c1, (if cols < c then cols else c) = c1 := ⟨_, rfl⟩
  have HC1 := Lib.hid hc1
  clear hc1
  go_cut [10] (fun s10 wx => s10 = .pointer (some ⟨H, 0, none⟩) ∧ Hid (Four w wx w.heap.size (w.heap.size + 1) G H (r, c) (s, d) lz (r, c1)))
  case first =>
    have k4 := HF.out.h.c0
    have k5 := HF.out.h.c1
    have kf := HF.out.h.free
    by_cases h : cols < c
    · have e := HC1.out
      rw [if_pos h] at e
      subst e
      have HFn := Lib.hid (HF.out.set1 hH1 hH2 hH0 hH3 cols)
      go_wp2
      go_meet
      exact ⟨rfl, HFn⟩
    · have e := HC1.out
      rw [if_neg h] at e
      subst e
      have hd1 : decide (cols < c) = false := decide_eq_false h
      go_wp2
      go_meet
      exact ⟨rfl, HF⟩
  case rest =>
  obtain ⟨rfl, HF1⟩ := hcut
  clear HF
  have k4 := HF1.out.h.c0
  have k5 := HF1.out.h.c1
  go_upto_if 29 with fail
  clear k4 k5
  obtain ⟨c2, hc2⟩ : ∃ c2, (if c1 < 0 then 0 else c1) = c2 := ⟨_, rfl⟩
  have HC2 := Lib.hid hc2
  clear hc2
  go_cut [10] (fun s10 wx => s10 = .pointer (some ⟨H, 0, none⟩) ∧ Hid (Four w wx w.heap.size (w.heap.size + 1) G H (r, c) (s, d) lz (r, c2)))
  case first =>
    have k4 := HF1.out.h.c0
    have k5 := HF1.out.h.c1
    have kf := HF1.out.h.free
    by_cases h : c1 < 0
    · have e := HC2.out
      rw [if_pos h] at e
      subst e
      have HFn := Lib.hid (HF1.out.set1 hH1 hH2 hH0 hH3 0)
      go_wp2
      go_meet
      exact ⟨rfl, HFn⟩
    · have e := HC2.out
      rw [if_neg h] at e
      subst e
      have hd1 : decide (c1 < 0) = false := decide_eq_false h
      go_wp2
      go_meet
      exact ⟨rfl, HF1⟩
  case rest =>
  obtain ⟨rfl, HF2⟩ := hcut
  clear HF1
  have k0 := HF2.out.p.c0
  have k1 := HF2.out.p.c1
  obtain ⟨bo, hbo⟩ : ∃ b, (decide (rows ≤ r) || decide (0 ≤ r) && decide (rows < 0)) = b := ⟨_, rfl⟩
  have HBO := Lib.hid hbo
  clear hbo
  go_upto_region 10 with fail
  go_cut [43] (fun s43 wx => s43 = .bool bo ∧ wc = wx)
  case first =>
    by_cases h1 : rows ≤ r
    · have e := HBO.out
      rw [decide_eq_true h1, Bool.true_or] at e
      subst e
      have hd1 : decide (rows ≤ r) = true := decide_eq_true h1
      clear h1
      go_wp2
      go_meet
      exact ⟨rfl, rfl⟩
    · have hd1 : decide (rows ≤ r) = false := decide_eq_false h1
      by_cases h2 : 0 ≤ r
      · have e := HBO.out
        rw [hd1, decide_eq_true h2, decide_eq_false (show ¬ rows < 0 by omega)] at e
        subst e
        have hd2 : decide (0 ≤ r) = true := decide_eq_true h2
        have hd3 : decide (rows < 0) = false := decide_eq_false (by omega)
        clear h1 h2
        go_wp2
        go_meet
        exact ⟨rfl, rfl⟩
      · have e := HBO.out
        rw [hd1, decide_eq_false h2] at e
        subst e
        have hd2 : decide (0 ≤ r) = false := decide_eq_false h2
        clear h1 h2
        go_wp2
        go_meet
        exact ⟨rfl, rfl⟩
  case rest =>
  obtain ⟨rfl, rfl⟩ := hcut
  go_upto_if 43 with fail
  clear k0 k1
  obtain ⟨m, hm⟩ : ∃ m : Int × Int, (if bo = true then (max rows 0, 0) else (r, c2)) = m := ⟨_, rfl⟩
  have HM := Lib.hid hm
  clear hm
  go_cut [10] (fun s10 wx => s10 = .pointer (some ⟨H, 0, none⟩) ∧ Hid (Four w wx w.heap.size (w.heap.size + 1) G H (r, c) (s, d) lz m))
  case first =>
    have k4 := HF2.out.h.c0
    have k5 := HF2.out.h.c1
    have kf := HF2.out.h.free
    cases bo with
    | true =>
      by_cases h : rows < 0
      · have e := HM.out
        rw [if_pos rfl, show max rows 0 = 0 by omega] at e
        subst e
        have HFn := Lib.hid (HF2.out.set hH1 hH2 hH0 hH3 0 0)
        go_wp2
        go_meet
        exact ⟨rfl, HFn⟩
      · have e := HM.out
        rw [if_pos rfl, show max rows 0 = rows by omega] at e
        subst e
        have hd : decide (rows < 0) = false := decide_eq_false h
        have hge : 0 ≤ rows := by omega
        have HFn := Lib.hid (HF2.out.set hH1 hH2 hH0 hH3 rows 0)
        go_wp2
        go_meet
        exact ⟨rfl, HFn⟩
    | false =>
      have e := HM.out
      rw [if_neg (by decide)] at e
      subst e
      go_wp2
      go_meet
      exact ⟨rfl, HF2⟩
  case rest =>
  obtain ⟨rfl, HF3⟩ := hcut
  clear HF2
  have k0 := HF3.out.p.c0
  have k1 := HF3.out.p.c1
  go_upto_if 49 with fail
  clear k0 k1
  have HCF : Hid ((if r < 0 then (0, 0) else m) = cz) := Lib.hid (by
    rw [HCZ.out]
    by_cases h1 : r < 0
    · rw [if_pos h1, if_pos h1]
    · rw [if_neg h1, if_neg h1, ← HM.out]
      have e1 := HC1.out
      have e2 := HC2.out
      have eb := HBO.out
      by_cases h2 : max rows 0 ≤ r
      · rw [if_pos h2, if_pos (by rw [← eb, decide_eq_true (show rows ≤ r by omega)]; rfl)]
      · rw [if_neg h2, if_neg (by rw [← eb, decide_eq_false (show ¬ rows ≤ r by omega), decide_eq_false (show ¬ rows < 0 by omega)]; simp)]
        have : c2 = max (min c cols) 0 := by
          rw [← e2, ← e1]
          by_cases g1 : cols < c
          · rw [if_pos g1]
            by_cases g2 : cols < 0
            · rw [if_pos g2]; omega
            · rw [if_neg g2]; omega
          · rw [if_neg g1]
            by_cases g2 : c < 0
            · rw [if_pos g2]; omega
            · rw [if_neg g2]; omega
        rw [this])
  clear HM HBO HC1 HC2 HCZ
  go_cut [10] (fun s10 wx => s10 = .pointer (some ⟨H, 0, none⟩) ∧ Hid (Four w wx w.heap.size (w.heap.size + 1) G H (r, c) (s, d) lz cz))
  case first =>
    have k4 := HF3.out.h.c0
    have k5 := HF3.out.h.c1
    have kf := HF3.out.h.free
    by_cases h : r < 0
    · have e := HCF.out
      rw [if_pos h] at e
      subst e
      have HFn := Lib.hid (HF3.out.set hH1 hH2 hH0 hH3 0 0)
      go_wp2
      go_meet
      exact ⟨rfl, HFn⟩
    · have e := HCF.out
      rw [if_neg h] at e
      subst e
      have hd : decide (r < 0) = false := decide_eq_false h
      go_wp2
      go_meet
      exact ⟨rfl, HF3⟩
  case rest =>
  obtain ⟨rfl, HF4⟩ := hcut
  clear HF3 HCF hH0 hH1 hH2 hH3 hG1 hG2 hG3
  obtain ⟨l1, l2⟩ := lz
  obtain ⟨m1, m2⟩ := cz
  have E1 := fun W => eqPos_self W l1 l2
  have E2 := fun W => eqPos_self W m1 m2
  have hg := guardPos
  have hS : (wc.cell? ⟨w.heap.size, 0, none⟩ = some (.int .i64 r) ∧ wc.cell? ⟨w.heap.size, 1, none⟩ = some (.int .i64 c) ∧ wc.cell? ⟨w.heap.size + 1, 0, none⟩ = some (.int .i64 s) ∧ wc.cell? ⟨w.heap.size + 1, 1, none⟩ = some (.int .i64 d) ∧ wc.cell? ⟨G, 0, none⟩ = some (.int .i64 l1) ∧ wc.cell? ⟨G, 1, none⟩ = some (.int .i64 l2) ∧ wc.cell? ⟨H, 0, none⟩ = some (.int .i64 m1) ∧ wc.cell? ⟨H, 1, none⟩ = some (.int .i64 m2)) ∧ (w.heap.size < wc.heap.size ∧ w.heap.size + 1 < wc.heap.size ∧ G < wc.heap.size ∧ H < wc.heap.size) ∧ Below wc.heap.size wc wc := ⟨⟨HF4.out.p.c0, HF4.out.p.c1, HF4.out.q.c0, HF4.out.q.c1, HF4.out.g.c0, HF4.out.g.c1, HF4.out.h.c0, HF4.out.h.c1⟩, ⟨HF4.out.p.lt, HF4.out.q.lt, HF4.out.g.lt, HF4.out.h.lt⟩, Below.refl _ _⟩
  have hSd := quad_step hS (Below.refl wc.heap.size wc).drew
  have HBF := Lib.hid HF4.out.below
  clear hS HF4
  go_wp2
  go_region_held3 (fun W => (W.cell? ⟨w.heap.size, 0, none⟩ = some (.int .i64 r) ∧ W.cell? ⟨w.heap.size, 1, none⟩ = some (.int .i64 c) ∧ W.cell? ⟨w.heap.size + 1, 0, none⟩ = some (.int .i64 s) ∧ W.cell? ⟨w.heap.size + 1, 1, none⟩ = some (.int .i64 d) ∧ W.cell? ⟨G, 0, none⟩ = some (.int .i64 l1) ∧ W.cell? ⟨G, 1, none⟩ = some (.int .i64 l2) ∧ W.cell? ⟨H, 0, none⟩ = some (.int .i64 m1) ∧ W.cell? ⟨H, 1, none⟩ = some (.int .i64 m2)) ∧ (w.heap.size < W.heap.size ∧ w.heap.size + 1 < W.heap.size ∧ G < W.heap.size ∧ H < W.heap.size) ∧ Below wc.heap.size wc W)
    (first | exact hSd | exact quad_step hSd hbx | exact quad_step (by assumption) hbx | assumption)
    (first
      | (go_at_call 20; (with_reducible refine (HL.out _).mono ?_); rintro e8 w8 ⟨rfl, hbx⟩)
      | (go_at_call 19; (with_reducible refine (HRL.out _).mono ?_); rintro e8 w8 ⟨rfl, hbx⟩)
      | (go_at_call 21; (with_reducible refine (HLA.out _).mono ?_); rintro e8 w8 ⟨rfl, hbx⟩)
      | (go_at_call 22; (with_reducible refine (HCL.out _).mono ?_); rintro e8 w8 ⟨rfl, hbx⟩)
      | (go_at_call 16; (with_reducible refine (awake_any _).mono ?_); rintro e8 w8 ⟨rfl, hbx⟩))
  all_goals
    go_wp2
    go_ret
    exact ⟨rfl, bel0 HBF.out (quad_below (by assumption))⟩
end Go.Proofs.Ytbloekdhafoniaa
