/- The laws ShiftAll and ShiftBack. -/
import Derived.Test.YtbloekdhafoniaaEg
namespace Go.Proofs.Ytbloekdhafoniaa
open Go.RowKit

theorem pair_step {wr W W' : World} {a b : Nat} {v1 v2 v3 v4 : Value} (h : (W.cell? ⟨a, 0, none⟩ = some v1 ∧ W.cell? ⟨a, 1, none⟩ = some v2 ∧ W.cell? ⟨b, 0, none⟩ = some v3 ∧ W.cell? ⟨b, 1, none⟩ = some v4) ∧ (a < W.heap.size ∧ b < W.heap.size) ∧ Below wr.heap.size wr W) (hb : Below W.heap.size W W') :
    (W'.cell? ⟨a, 0, none⟩ = some v1 ∧ W'.cell? ⟨a, 1, none⟩ = some v2 ∧ W'.cell? ⟨b, 0, none⟩ = some v3 ∧ W'.cell? ⟨b, 1, none⟩ = some v4) ∧ (a < W'.heap.size ∧ b < W'.heap.size) ∧ Below wr.heap.size wr W' := by
  obtain ⟨⟨e1, e2, e3, e4⟩, ⟨l1, l2⟩, hB⟩ := h
  have hs := hb.size
  exact ⟨⟨(hb.cell (p := ⟨a, 0, none⟩) l1).trans e1, (hb.cell (p := ⟨a, 1, none⟩) l1).trans e2, (hb.cell (p := ⟨b, 0, none⟩) l2).trans e3, (hb.cell (p := ⟨b, 1, none⟩) l2).trans e4⟩, ⟨by omega, by omega⟩, bel0 hB hb⟩
theorem pair_below {wr W : World} {a b : Nat} {v1 v2 v3 v4 : Value} (h : (W.cell? ⟨a, 0, none⟩ = some v1 ∧ W.cell? ⟨a, 1, none⟩ = some v2 ∧ W.cell? ⟨b, 0, none⟩ = some v3 ∧ W.cell? ⟨b, 1, none⟩ = some v4) ∧ (a < W.heap.size ∧ b < W.heap.size) ∧ Below wr.heap.size wr W) : Below wr.heap.size wr W := h.2.2

set_option maxHeartbeats 4000000 in
theorem shiftAll_law (r c : Int) (A : Option Addr) (l : List (Int × Int × Int)) (n cp : Nat) (hn : n = l.length) (w : World) (hR : RSh w w.heap.size A l) :
    Calls Try.prog 5 #[.agg #[.int .i64 r, .int .i64 c], .slice A n cp] w fun e w' => e = .returned (.bool true) ∧ Below w.heap.size w w' := by
  by_cases h100 : (100 : Int) < n
  · clear hR hn
    go_enter Try.func5, Try.ntmps5
    go_wp2_with (go_at_call 16; (with_reducible refine (awake_any _).mono ?_); rintro e w0 ⟨rfl, hb0⟩; have HB0 := Lib.hid hb0; clear hb0)
    go_ret
    exact ⟨rfl, bel1 (Below.refl _ _) HB0.out⟩
  · have hn100 : (n : Int) ≤ 100 := by omega
    have hdn : decide (100 < (n : Int)) = false := decide_eq_false h100
    have HR := Lib.hid hR
    have HN := Lib.hid hn
    have HALL : Hid (∀ W, Below w.heap.size w W → Calls Try.prog 18 #[.agg #[.int .i64 r, .int .i64 c], .slice A n cp] W fun e w' => e = .returned (.agg #[.int .i64 (allZ (r, c) l).1, .int .i64 (allZ (r, c) l).2]) ∧ Below W.heap.size W w') := Lib.hid fun W hW => all_any r c A l n cp hn (by omega) W (hR.past hW)
    clear hR hn h100
    go_enter Try.func5, Try.ntmps5
    go_wp2
    go_loopw [6] (fun is wr => ∃ (k : Nat) (x y : Int), is = .int .i64 k ∧ k ≤ n ∧ Hid ((x, y) = allZ (r, c) (l.take k)) ∧ Hid (PB wr w.heap.size r c) ∧ Hid (PB wr (w.heap.size + 1) x y) ∧ Hid (Below w.heap.size w wr)) (fun is _ => n - (intOf is).toNat)
    case atStart =>
      refine ⟨0, r, c, rfl, Nat.zero_le _, Lib.hid rfl, Lib.hid ((PB.new w r c).alloc _), Lib.hid ?_, Lib.hid (belA (belA (Below.refl _ _) _) _)⟩
      have h := PB.new (w.alloc (.cells #[.int .i64 r, .int .i64 c] 23)) r c
      rwa [show (w.alloc (.cells #[.int .i64 r, .int .i64 c] 23)).heap.size = w.heap.size + 1 by simp] at h
    case round =>
      obtain ⟨k, x, y, rfl, hk, HX, HP, HQ, HB⟩ := hrel
      by_cases hlt : k < n
      · obtain ⟨b, off, a1, a2, a3, rfl, hbl, hl, k0, k1, k2⟩ := HR.out.at HB.out k (by have := HN.out; omega)
        have hki : (k : Int) < n := by omega
        have HXN : Hid (allZ (r, c) (l.take (k + 1)) = moveZ x y a1 a2 a3) := Lib.hid (by rw [allZ_snoc _ _ _ _ _ _ hl, ← HX.out])
        have HM := Lib.hid (refMove_any x y a1 a2 a3)
        obtain ⟨x', hx'⟩ : ∃ x', (moveZ x y a1 a2 a3).1 = x' := ⟨_, rfl⟩
        obtain ⟨y', hy'⟩ : ∃ y', (moveZ x y a1 a2 a3).2 = y' := ⟨_, rfl⟩
        have HXY : Hid ((x', y') = allZ (r, c) (l.take (k + 1))) := Lib.hid (by rw [HXN.out, ← hx', ← hy'])
        rw [hx', hy'] at HM
        have p0 := HQ.out.c0
        have p1 := HQ.out.c1
        have hsz := HQ.out.lt
        have hbw : b < wr.heap.size := Nat.lt_of_lt_of_le hbl HB.out.size
        clear hx' hy' HXN HX hl hbl HALL
        go_wp2
        go_still_tail 5, (by kernel_rfl)
        change wpList _ _ _ _ _ wr.drew
        have HPd := Lib.hid HP.out.drew
        have HQd := Lib.hid HQ.out.drew
        have HBd := Lib.hid HB.out.drew
        clear p0 p1 hsz hbw k0 k1 k2
        generalize wr.drew = wd at *
        go_wp2_with (go_at_call 13; (with_reducible refine (HM.out _).mono ?_); rintro e w1 ⟨rfl, hb⟩; have HP1 := Lib.hid (HPd.out.past hb); have HQ1 := Lib.hid (HQd.out.past hb); have HB1 := Lib.hid (bel0 HBd.out hb); have c0 := HQ1.out.c0; have c1 := HQ1.out.c1; have cf := HQ1.out.free; clear hb)
        go_roundw
        case rel => exact ⟨k + 1, x', y', by go_num, hlt, HXY, Lib.hid ((HP1.out.other _ _ (by omega)).other _ _ (by omega)), Lib.hid (HQ1.out.set x' y'), Lib.hid (belC (belC HB1.out (by omega)) (by omega))⟩
        case measure => simp [intOf]; omega
      · obtain rfl : k = n := by omega
        have HXL : Hid ((x, y) = allZ (r, c) l) := Lib.hid (by have := HX.out; rwa [HN.out, List.take_length] at this)
        rw [← HXL.out] at HALL
        have hS : (wr.cell? ⟨w.heap.size, 0, none⟩ = some (.int .i64 r) ∧ wr.cell? ⟨w.heap.size, 1, none⟩ = some (.int .i64 c) ∧ wr.cell? ⟨w.heap.size + 1, 0, none⟩ = some (.int .i64 x) ∧ wr.cell? ⟨w.heap.size + 1, 1, none⟩ = some (.int .i64 y)) ∧ (w.heap.size < wr.heap.size ∧ w.heap.size + 1 < wr.heap.size) ∧ Below wr.heap.size wr wr := ⟨⟨HP.out.c0, HP.out.c1, HQ.out.c0, HQ.out.c1⟩, ⟨HP.out.lt, HQ.out.lt⟩, Below.refl _ _⟩
        have hSd := pair_step hS (Below.refl wr.heap.size wr).drew
        have HA2 : Hid (∀ W, Below wr.heap.size wr W → Calls Try.prog 18 #[.agg #[.int .i64 r, .int .i64 c], .slice A k cp] W fun e w' => e = .returned (.agg #[.int .i64 x, .int .i64 y]) ∧ Below W.heap.size W w') := Lib.hid fun W hW => HALL.out W (bel0 HB.out hW)
        have E1 := fun W => eqPos_self W x y
        have hg := guardPos
        clear HX HALL hS HXL HP HQ
        go_wp2
        go_region_held3 (fun W => (W.cell? ⟨w.heap.size, 0, none⟩ = some (.int .i64 r) ∧ W.cell? ⟨w.heap.size, 1, none⟩ = some (.int .i64 c) ∧ W.cell? ⟨w.heap.size + 1, 0, none⟩ = some (.int .i64 x) ∧ W.cell? ⟨w.heap.size + 1, 1, none⟩ = some (.int .i64 y)) ∧ (w.heap.size < W.heap.size ∧ w.heap.size + 1 < W.heap.size) ∧ Below wr.heap.size wr W)
          (first | exact hSd | exact pair_step hSd hbx | exact pair_step (by assumption) hbx | assumption)
          (first
            | (go_at_call 18; (with_reducible refine (HA2.out _ ?_).mono ?_); (first | exact hSd.2.2 | exact pair_below (by assumption)); rintro e8 w8 ⟨rfl, hbx⟩)
            | (go_at_call 16; (with_reducible refine (awake_any _).mono ?_); rintro e8 w8 ⟨rfl, hbx⟩))
        all_goals
          go_wp2
          go_ret
          exact ⟨rfl, bel0 HB.out (pair_below (by assumption))⟩

theorem back_eq (r c a n : Int) (h : num (moveZ r c 0 a n).1 = true) : allZ (r, c) [(0, a, n), (1, a, n)] = (r, c) := by
  show moveZ (moveZ r c 0 a n).1 (moveZ r c 0 a n).2 1 a n = (r, c)
  by_cases hp : okP r c = true
  · by_cases hs : okS 0 a n = true
    · have hs1 : okS 1 a n = true := hs
      obtain ⟨a1, a2, n1, n2, _, _⟩ := okS_t hs
      obtain ⟨r1, r2, c1, c2⟩ := okP_t hp
      by_cases hlt : r < a
      · have e : moveZ r c 0 a n = (r, c) := if_pos (.inr (.inr hlt))
        rw [e]
        exact if_pos (.inr (.inr hlt))
      · have hN : ¬ (okP r c = false ∨ okS 0 a n = false ∨ r < begZ 0 a) := by rw [hp, hs, show begZ 0 a = a from rfl]; simp; omega
        have e : moveZ r c 0 a n = (r + n, c) := by unfold moveZ; rw [if_neg hN, if_pos rfl]
        rw [e] at h ⊢
        have hc : num c = true := by simp only [okP, Bool.and_eq_true] at hp; exact hp.2
        have hp2 : okP (r + n) c = true := by rw [okP, h, hc]; rfl
        have hN2 : ¬ (okP (r + n) c = false ∨ okS 1 a n = false ∨ r + n < begZ 1 a) := by rw [hp2, hs1, show begZ 1 a = a from rfl]; simp; omega
        show moveZ (r + n) c 1 a n = (r, c)
        unfold moveZ
        rw [if_neg hN2, if_neg (by decide), show begZ 1 a = a from rfl, if_neg (by omega), show r + n - n = r by omega]
    · have hs0 : okS 0 a n = false := by simpa using hs
      have e : moveZ r c 0 a n = (r, c) := if_pos (.inr (.inl hs0))
      rw [e]
      exact if_pos (.inr (.inl hs0))
  · have hp0 : okP r c = false := by simpa using hp
    have e : moveZ r c 0 a n = (r, c) := if_pos (.inl hp0)
    rw [e]
    exact if_pos (.inl hp0)
end Go.Proofs.Ytbloekdhafoniaa
