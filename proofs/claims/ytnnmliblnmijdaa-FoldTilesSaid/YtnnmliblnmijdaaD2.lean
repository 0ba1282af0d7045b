/- The walks of fold.Right and Count. -/
import Derived.Test.YtnnmliblnmijdaaD1
namespace Go.Proofs.Ytnnmliblnmijdaa
open Go.RowKit

set_option maxRecDepth 100000 in
set_option maxHeartbeats 4000000 in
theorem right_any (A : Option Addr) (l : List T3) (n c : Nat) (hn : n = l.length) (hl : n ≤ 1000000) (rows : Int) (w : World) (h : RK encF 3 w A l) :
    Calls Try.prog 13 #[.int .i64 rows, .slice A n c] w fun e w' => e = .returned (.bool (rightB rows 0 l)) ∧ Below w.heap.size w w' := by
  have HR := Lib.hid h
  have HN := Lib.hid hn
  clear h hn
  go_enter Try.func13, Try.ntmps13
  go_wp2
  go_loopg [5, 7, 10] n (fun gh s5 s7 s10 wx => ∃ k : Nat, k + gh = n ∧ s10 = .int .i64 k ∧ s5 = .int .i64 (endV l k) ∧ Hid (Below w.heap.size w wx) ∧ Hid (∀ j, j < k → ¬ badAt rows l j))
  case atStart => exact ⟨0, by omega, rfl, rfl, Lib.hid (Below.refl _ _), Lib.hid fun j hj => by omega⟩
  case round =>
    obtain ⟨k, hk, rfl, rfl, HB, HG⟩ := hrel
    cases gk with
    | zero =>
      obtain rfl : n = k := by omega
      have HZ : Hid (rightB rows 0 l = true) := Lib.hid (right_all.2 fun j hj => HG.out j (by rw [HN.out]; exact hj))
      go_wp2
      go_ret
      exact ⟨by rw [HZ.out]; rfl, HB.out⟩
    | succ gh =>
      have hlt : k < n := by omega
      have hki : (k : Int) < n := by omega
      obtain ⟨bb, off, rfl, hG⟩ := HR.out.fd (fun e => by have := HN.out; rw [e] at this; simp at this; omega)
      obtain ⟨g0, gA⟩ := hG _ HB.out
      obtain ⟨c0, c1, c2⟩ := gA k (HN.out ▸ hlt)
      have HBD : Hid (badAt rows l k → rightB rows 0 l = false) := Lib.hid fun hb => by
        cases hr : rightB rows 0 l with
        | false => rfl
        | true => exact absurd hb (right_all.1 hr k (HN.out ▸ hlt))
      have HNX : Hid (endV l (k + 1) = (Nth l k).2.1) := Lib.hid rfl
      have HD : Hid (badAt rows l k ↔ ((Nth l k).1 < endV l k ∨ (Nth l k).2.1 ≤ (Nth l k).1 ∨ rows < (Nth l k).2.1)) := Lib.hid Iff.rfl
      have HB1 := Lib.hid (bel0 HB.out (belA (Below.refl wr.heap.size wr) (.cells #[.int .i64 (Nth l k).1, .int .i64 (Nth l k).2.1, .int .u64 (Nth l k).2.2] 48)))
      clear hG gA
      generalize endV l k = en at *
      generalize Nth l k = x at *
      obtain ⟨xf, xt, xi⟩ := x
      simp only at c0 c1 c2 HD HNX HB1
      by_cases h1 : xf < en
      · have HZ := Lib.hid (HBD.out (HD.out.2 (.inl h1)))
        go_wp2
        go_ret
        exact ⟨by rw [HZ.out]; rfl, HB1.out⟩
      · by_cases h2 : xt ≤ xf
        · have HZ := Lib.hid (HBD.out (HD.out.2 (.inr (.inl h2))))
          go_wp2
          go_ret
          exact ⟨by rw [HZ.out]; rfl, HB1.out⟩
        · by_cases h3 : rows < xt
          · have HZ := Lib.hid (HBD.out (HD.out.2 (.inr (.inr h3))))
            go_wp2
            go_ret
            exact ⟨by rw [HZ.out]; rfl, HB1.out⟩
          · have HG2 : Hid (∀ j, j < k + 1 → ¬ badAt rows l j) := Lib.hid fun j hj => by
              by_cases e : j = k
              · subst e
                intro hb
                rcases HD.out.1 hb with h | h | h
                · exact h1 h
                · exact h2 h
                · exact h3 h
              · exact HG.out j (by omega)
            go_wp2
            go_roundg gh
            case measure => omega
            case rel => exact ⟨k + 1, by omega, by go_num, by rw [HNX.out], HB1, HG2⟩
/-- How many items are shown. -/
def cntV (rows : Int) : List T3 → Int
  | [] => rows
  | f :: l => cntV rows l - (f.2.1 - f.1 - 1)
theorem cnt_snoc (rows : Int) : ∀ (l : List T3) (f : T3), cntV rows (l ++ [f]) = cntV rows l - (f.2.1 - f.1 - 1)
  | [], f => rfl
  | g :: l, f => by
    show cntV rows (l ++ [f]) - _ = cntV rows l - _ - _
    rw [cnt_snoc rows l f]
    omega
/-- Of right folds: where one begins and ends, and how many items the first ones leave. -/
theorem right_at {rows : Int} {l : List T3} (h : rightB rows 0 l = true) : ∀ k, k < l.length → 0 ≤ endV l k ∧ endV l k ≤ (Nth l k).1 ∧ (Nth l k).1 < (Nth l k).2.1 ∧ (Nth l k).2.1 ≤ rows
  | 0, hk => by
    have := right_all.1 h 0 hk
    simp only [badAt, endV, not_or] at this ⊢
    omega
  | k + 1, hk => by
    have h0 := right_at h k (by omega)
    have := right_all.1 h (k + 1) hk
    simp only [badAt, endV, not_or] at this ⊢
    omega
theorem cnt_in {rows : Int} {l : List T3} (h : rightB rows 0 l = true) (h0 : 0 ≤ rows) : ∀ k, k ≤ l.length → 0 ≤ endV l k ∧ endV l k ≤ rows ∧ rows - endV l k ≤ cntV rows (l.take k) ∧ cntV rows (l.take k) ≤ rows
  | 0, _ => by simp [endV, cntV, h0]
  | k + 1, hk => by
    have h1 := cnt_in h h0 k (by omega)
    have h2 := right_at h k (by omega)
    rw [take_snocT l k (by omega), cnt_snoc]
    have e : endV l (k + 1) = (Nth l k).2.1 := rfl
    rw [e]
    omega
set_option maxRecDepth 100000 in
set_option maxHeartbeats 4000000 in
theorem count_any (A : Option Addr) (l : List T3) (n c : Nat) (hn : n = l.length) (hl : n ≤ 1000000) (rows : Int) (h0 : 0 ≤ rows) (hM : rows ≤ 200000) (hr : rightB rows 0 l = true) (w : World) (h : RK encF 3 w A l) :
    Calls Try.prog 11 #[.int .i64 rows, .slice A n c] w fun e w' => e = .returned (.tuple #[.int .i64 (cntV rows l), .int .i64 0]) ∧ Below w.heap.size w w' := by
  have HR := Lib.hid h
  have HN := Lib.hid hn
  have HRT := Lib.hid (right_any A l n c hn hl rows w h)
  rw [hr] at HRT
  have HC := Lib.hid (cnt_in hr h0)
  have HA := Lib.hid (right_at hr)
  clear h hn hr
  have hr0 : ¬ rows < 0 := by omega
  have hr1 : ¬ 200000 < rows := by omega
  go_enter Try.func11, Try.ntmps11
  go_wp2_with (go_at_call 13; (with_reducible refine HRT.out.mono ?_); rintro e w1 ⟨rfl, hb⟩; have HB1 := Lib.hid hb; clear hb HRT)
  go_loopg [6, 8, 24] n (fun gh s6 s8 s24 wx => ∃ k : Nat, k + gh = n ∧ s24 = .int .i64 k ∧ s6 = .int .i64 (cntV rows (l.take k)) ∧ Hid (Below w.heap.size w wx))
  case atStart => exact ⟨0, by omega, rfl, rfl, HB1⟩
  case round =>
    obtain ⟨k, hk, rfl, rfl, HB⟩ := hrel
    cases gk with
    | zero =>
      obtain rfl : n = k := by omega
      have HZ : Hid (cntV rows (l.take n) = cntV rows l) := Lib.hid (by rw [List.take_of_length_le (by rw [← HN.out]; exact Nat.le_refl _)])
      generalize cntV rows (l.take n) = y at *
      go_wp2
      go_ret2
      exact ⟨by rw [← HZ.out]; rfl, HB.out⟩
    | succ gh =>
      have hlt : k < n := by omega
      have hki : (k : Int) < n := by omega
      obtain ⟨bb, off, rfl, hG⟩ := HR.out.fd (fun e => by have := HN.out; rw [e] at this; simp at this; omega)
      obtain ⟨g0, gA⟩ := hG _ HB.out
      obtain ⟨c0, c1, c2⟩ := gA k (HN.out ▸ hlt)
      have hC := HC.out k (by rw [← HN.out]; omega)
      have hA := HA.out k (by rw [← HN.out]; omega)
      have HS : Hid (cntV rows (l.take (k + 1)) = cntV rows (l.take k) - ((Nth l k).2.1 - (Nth l k).1 - 1)) := Lib.hid (by rw [take_snocT l k (HN.out ▸ hlt), cnt_snoc])
      have HBN := Lib.hid (bel0 HB.out (belA (Below.refl wr.heap.size wr) (.cells #[.int .i64 (Nth l k).1, .int .i64 (Nth l k).2.1, .int .u64 (Nth l k).2.2] 48)))
      clear hG gA HA HC
      generalize cntV rows (l.take k) = y at *
      generalize Nth l k = x at *
      obtain ⟨xf, xt, xi⟩ := x
      simp only at c0 c1 c2 HS HBN hA
      have hw1 : IntKind.i64.wrap (xt - xf) = xt - xf := IntWalk.i64_in _ (by omega)
      have hw2 : IntKind.i64.wrap (xt - xf - 1) = xt - xf - 1 := IntWalk.i64_in _ (by omega)
      have hw3 : IntKind.i64.wrap (y - (xt - xf - 1)) = y - (xt - xf - 1) := IntWalk.i64_in _ (by omega)
      clear hC hA
      go_wp2
      go_roundg gh
      case measure => omega
      case rel => exact ⟨k + 1, by omega, by go_num, by rw [HS.out], HBN⟩
set_option maxRecDepth 100000 in
set_option maxHeartbeats 4000000 in
theorem count_bad (A : Option Addr) (l : List T3) (n c : Nat) (hn : n = l.length) (hl : n ≤ 1000000) (rows : Int) (hb : rows < 0 ∨ 200000 < rows ∨ rightB rows 0 l = false) (w : World) (h : RK encF 3 w A l) :
    Calls Try.prog 11 #[.int .i64 rows, .slice A n c] w fun e w' => e = .returned (.tuple #[.int .i64 0, .int .i64 1]) ∧ Below w.heap.size w w' := by
  have HRT := Lib.hid (right_any A l n c hn hl rows w h)
  clear h hn
  by_cases h0 : rows < 0
  · clear hb HRT
    go_enter Try.func11, Try.ntmps11
    go_wp2
    go_ret2
    exact ⟨rfl, Below.refl _ _⟩
  · by_cases h1 : 200000 < rows
    · clear hb HRT
      go_enter Try.func11, Try.ntmps11
      go_wp2
      go_ret2
      exact ⟨rfl, Below.refl _ _⟩
    · have hr : rightB rows 0 l = false := (hb.resolve_left h0).resolve_left h1
      rw [hr] at HRT
      clear hb hr
      go_enter Try.func11, Try.ntmps11
      go_wp2_with (go_at_call 13; (with_reducible refine HRT.out.mono ?_); rintro e w1 ⟨rfl, hb⟩; have HB1 := Lib.hid hb; clear hb HRT)
      go_ret2
      exact ⟨rfl, HB1.out⟩

end Go.Proofs.Ytnnmliblnmijdaa
