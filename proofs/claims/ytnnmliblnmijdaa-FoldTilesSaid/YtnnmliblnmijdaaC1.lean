/- The document's Right; the law FoldCleans. -/
import Derived.Test.YtnnmliblnmijdaaD8
import Derived.Test.YtnnmliblnmijdaaD9
namespace Go.Proofs.Ytnnmliblnmijdaa
open Go.RowKit

theorem nth_app {L : List T3} {x : T3} {k : Nat} (h : k < L.length) : Nth (L ++ [x]) k = Nth L k := by unfold Nth; rw [List.getElem?_append_left h]
theorem nth_last {L : List T3} {x : T3} : Nth (L ++ [x]) L.length = x := by unfold Nth; rw [List.getElem?_append_right (Nat.le_refl _), Nat.sub_self]; rfl
theorem end_app {L : List T3} {x : T3} : ∀ {k : Nat}, k ≤ L.length → endV (L ++ [x]) k = endV L k
  | 0, _ => rfl
  | k + 1, h => congrArg (fun y => y.2.1) (nth_app (by omega))
theorem end_pos {rows : Int} {l : List T3} : ∀ k, (∀ j, j < k → ¬ badAt rows l j) → 0 ≤ endV l k
  | 0, _ => Int.le_refl _
  | k + 1, h => by
    have h1 := end_pos k fun j hj => h j (by omega)
    have h2 := h k (by omega)
    simp only [badAt, not_or] at h2
    show 0 ≤ (Nth l k).2.1
    omega
theorem cl_right (rows : Int) (l : List T3) : ∀ k, k ≤ l.length → rightB rows 0 (clV rows (l.take k)).1 = true ∧ (clV rows (l.take k)).2 = endV (clV rows (l.take k)).1 (clV rows (l.take k)).1.length
  | 0, _ => ⟨rfl, rfl⟩
  | k + 1, h => by
    obtain ⟨h1, h2⟩ := cl_right rows l k (by omega)
    rw [cl_snoc rows l k (by omega)]
    generalize clV rows (l.take k) = s at *
    obtain ⟨L, en⟩ := s
    generalize Nth l k = x
    simp only at h1 h2
    unfold clStep
    simp only
    by_cases hc : en ≤ max x.1 0 ∧ max x.1 0 < min x.2.1 rows
    · rw [if_pos hc]
      simp only
      refine ⟨right_all.2 fun j hj => ?_, ?_⟩
      · rw [List.length_append] at hj
        simp only [List.length_cons, List.length_nil] at hj
        by_cases hjl : j < L.length
        · have := right_all.1 h1 j hjl
          unfold badAt at this ⊢
          rwa [nth_app hjl, end_app (by omega)]
        · obtain rfl : j = L.length := by omega
          unfold badAt
          rw [nth_last, end_app (Nat.le_refl _), ← h2]
          simp only [not_or]
          omega
      · rw [List.length_append]
        show _ = (Nth (L ++ [_]) L.length).2.1
        rw [nth_last]
    · rw [if_neg hc]
      exact ⟨h1, h2⟩
theorem cl_self {rows : Int} {l : List T3} (h : rightB rows 0 l = true) : ∀ k, k ≤ l.length → clV rows (l.take k) = (l.take k, endV l k)
  | 0, _ => rfl
  | k + 1, hk => by
    rw [cl_snoc rows l k (by omega), cl_self h k (by omega), take_snocT l k (by omega)]
    have h1 := right_at h k (by omega)
    unfold clStep
    simp only
    have e1 : max (Nth l k).1 0 = (Nth l k).1 := by omega
    have e2 : min (Nth l k).2.1 rows = (Nth l k).2.1 := by omega
    rw [e1, e2, if_pos ⟨h1.2.1, h1.2.2.1⟩]
    rfl
set_option maxRecDepth 100000 in
set_option maxHeartbeats 8000000 in
theorem refRight_any (A : Option Addr) (l : List T3) (n c : Nat) (hn : n = l.length) (hl : n ≤ 1000000) (rows : Int) (w : World) (h : RK encF 3 w A l) :
    Calls Try.prog 12 #[.int .i64 rows, .slice A n c] w fun e w' => e = .returned (.bool (rightB rows 0 l)) ∧ Below w.heap.size w w' := by
  have HR := Lib.hid h
  have HN := Lib.hid hn
  clear h hn
  go_enter Try.func12, Try.ntmps12
  go_wp2
  go_loopg [5] n (fun gh s5 wx => ∃ k q : Nat, k + gh = n ∧ s5 = .int .i64 k ∧ wx = w.drewN q ∧ Hid (∀ j, j < k → ¬ badAt rows l j))
  case atStart => exact ⟨0, 0, by omega, rfl, rfl, Lib.hid fun j hj => by omega⟩
  case round =>
    obtain ⟨k, q, hk, rfl, rfl, HG⟩ := hrel
    cases gk with
    | zero =>
      obtain rfl : n = k := by omega
      have HZ : Hid (rightB rows 0 l = true) := Lib.hid (right_all.2 fun j hj => HG.out j (by rw [HN.out]; exact hj))
      go_wp2
      go_ret
      exact ⟨by rw [HZ.out]; rfl, belN' _ _⟩
    | succ gh =>
      have hlt : k < n := by omega
      have hki : (k : Int) < n := by omega
      obtain ⟨bb, off, rfl, hG⟩ := HR.out.fd (fun e => by have := HN.out; rw [e] at this; simp at this; omega)
      obtain ⟨g0, gA⟩ := hG w (Below.refl _ _)
      obtain ⟨x0, x1, x2⟩ := gA k (HN.out ▸ hlt)
      have HBD : Hid (badAt rows l k → rightB rows 0 l = false) := Lib.hid fun hb => by
        cases hr : rightB rows 0 l with
        | false => rfl
        | true => exact absurd hb (right_all.1 hr k (HN.out ▸ hlt))
      have HD : Hid (badAt rows l k ↔ ((Nth l k).1 < endV l k ∨ (Nth l k).2.1 ≤ (Nth l k).1 ∨ rows < (Nth l k).2.1)) := Lib.hid Iff.rfl
      have HE := Lib.hid (end_pos k HG.out)
      clear hG
      by_cases hk0 : k = 0
      · have HEN : Hid (endV l k = 0) := Lib.hid (by rw [hk0]; rfl)
        have hdk : decide (0 < k) = false := decide_eq_false (by omega)
        clear gA hk0 HE
        generalize endV l k = en at *
        generalize Nth l k = x at *
        obtain ⟨xa, xb, xc⟩ := x
        simp only at x0 x1 x2 HD
        by_cases h1 : xa < 0
        · have hdh1 : decide (xa < 0) = true := decide_eq_true (by omega)
          have HZ := Lib.hid (HBD.out (HD.out.2 (.inl (by have := HEN.out; omega))))
          go_wp2
          go_quiet (fail)
          go_wp2
          go_ret
          exact ⟨by rw [HZ.out]; rfl, bel0 (belN' _ _) (belN' _ _)⟩
        · have hdh1 : decide (xa < 0) = false := decide_eq_false (by omega)
          by_cases h2 : xb ≤ xa
          · have hdh2 : decide (xb ≤ xa) = true := decide_eq_true (by omega)
            have HZ := Lib.hid (HBD.out (HD.out.2 (.inr (.inl h2))))
            go_wp2
            go_quiet (fail)
            go_wp2
            go_ret
            exact ⟨by rw [HZ.out]; rfl, bel0 (belN' _ _) (belN' _ _)⟩
          · have hdh2 : decide (xb ≤ xa) = false := decide_eq_false (by omega)
            by_cases h3 : rows < xb
            · have hdh3 : decide (rows < xb) = true := decide_eq_true (by omega)
              have HZ := Lib.hid (HBD.out (HD.out.2 (.inr (.inr h3))))
              go_wp2
              go_quiet (fail)
              go_wp2
              go_ret
              exact ⟨by rw [HZ.out]; rfl, bel0 (belN' _ _) (belN' _ _)⟩
            · have hdh3 : decide (rows < xb) = false := decide_eq_false (by omega)
              have HG2 : Hid (∀ j, j < k + 1 → ¬ badAt rows l j) := Lib.hid fun j hj => by
                by_cases e : j = k
                · subst e
                  intro hb
                  rcases HD.out.1 hb with h | h | h
                  · have := HEN.out; omega
                  · exact h2 h
                  · exact h3 h
                · exact HG.out j (by omega)
              go_wp2
              go_quiet (fail)
              go_wp2
              go_roundg gh
              case measure => omega
              case rel => exact ⟨k + 1, q + nq, by omega, by go_num, rfl, HG2⟩
      · obtain ⟨k1, hk1⟩ : ∃ k1, k = k1 + 1 := ⟨k - 1, by omega⟩
        obtain ⟨y0, y1, y2⟩ := gA k1 (by rw [← HN.out]; omega)
        have HEN : Hid (endV l k = (Nth l k1).2.1) := Lib.hid (by rw [hk1]; rfl)
        have hw1 : IntKind.i64.wrap ((k : Int) - 1) = ((k1 : Nat) : Int) := by rw [IntWalk.i64_in _ (by omega)]; omega
        have hkp : (0 : Int) < k := by omega
        have hdk : decide (0 < k) = true := decide_eq_true (by omega)
        have hk1n : (k1 : Int) < n := by omega
        clear gA hk0 hk1
        generalize endV l k = en at *
        generalize Nth l k = x at *
        generalize Nth l k1 = y at *
        obtain ⟨xa, xb, xc⟩ := x
        obtain ⟨ya, yb, yc⟩ := y
        simp only at x0 x1 x2 HD y0 y1 y2 HEN
        by_cases h1 : xa < 0
        · have hdh1 : decide (xa < 0) = true := decide_eq_true (by omega)
          have HZ := Lib.hid (HBD.out (HD.out.2 (.inl (by have := HEN.out; have := HE.out; omega))))
          go_wp2
          go_quiet (fail)
          go_wp2
          go_ret
          exact ⟨by rw [HZ.out]; rfl, bel0 (belN' _ _) (belN' _ _)⟩
        · have hdh1 : decide (xa < 0) = false := decide_eq_false (by omega)
          by_cases h2 : xb ≤ xa
          · have hdh2 : decide (xb ≤ xa) = true := decide_eq_true (by omega)
            have HZ := Lib.hid (HBD.out (HD.out.2 (.inr (.inl h2))))
            go_wp2
            go_quiet (fail)
            go_wp2
            go_ret
            exact ⟨by rw [HZ.out]; rfl, bel0 (belN' _ _) (belN' _ _)⟩
          · have hdh2 : decide (xb ≤ xa) = false := decide_eq_false (by omega)
            by_cases h3 : rows < xb
            · have hdh3 : decide (rows < xb) = true := decide_eq_true (by omega)
              have HZ := Lib.hid (HBD.out (HD.out.2 (.inr (.inr h3))))
              go_wp2
              go_quiet (fail)
              go_wp2
              go_ret
              exact ⟨by rw [HZ.out]; rfl, bel0 (belN' _ _) (belN' _ _)⟩
            · have hdh3 : decide (rows < xb) = false := decide_eq_false (by omega)
              by_cases h4 : xa < yb
              · have hdh4 : decide (xa < yb) = true := decide_eq_true (by omega)
                have HZ := Lib.hid (HBD.out (HD.out.2 (.inl (by have := HEN.out; omega))))
                go_wp2
                go_quiet (fail)
                go_wp2
                go_ret
                exact ⟨by rw [HZ.out]; rfl, bel0 (belN' _ _) (belN' _ _)⟩
              · have hdh4 : decide (xa < yb) = false := decide_eq_false (by omega)
                have HG2 : Hid (∀ j, j < k + 1 → ¬ badAt rows l j) := Lib.hid fun j hj => by
                  by_cases e : j = k
                  · subst e
                    intro hb
                    rcases HD.out.1 hb with h | h | h
                    · have := HEN.out; omega
                    · exact h2 h
                    · exact h3 h
                  · exact HG.out j (by omega)
                go_wp2
                go_quiet (fail)
                go_wp2
                go_roundg gh
                case measure => omega
                case rel => exact ⟨k + 1, q + nq, by omega, by go_num, rfl, HG2⟩

end Go.Proofs.Ytnnmliblnmijdaa
