/- Jump's closures; the walk of best, for any closures. -/
import Derived.Test.YtfgnlohnalgnpaaJ2
import Derived.Deep.LoopGhost
import Derived.WalkMore
namespace Go.Proofs.Ytfgnlohnalgnpaa
open Go.RowKit

theorem belN' (w : World) (n : Nat) : Below w.heap.size w (w.drewN n) := ⟨rfl, rfl, rfl, Nat.le_refl _, fun _ _ => rfl⟩
def InB (x : Int) : Prop := -9223372036854775808 ≤ x ∧ x ≤ 9223372036854775807
theorem best_in {m : Int → Bool} {b : Int → Int → Bool} : ∀ (l : List Int) (s : Int × Bool), (∀ x ∈ l, InB x) → InB s.1 → InB (l.foldl (stp m b) s).1
  | [], s, _, h => h
  | x :: l, s, hl, h => by
    rw [List.foldl_cons]
    refine best_in l _ (fun y hy => hl y (List.mem_cons_of_mem _ hy)) ?_
    have := hl x (by simp)
    unfold stp
    repeat' split
    all_goals assumption
theorem bestV_in {m : Int → Bool} {b : Int → Int → Bool} (l : List Int) (hl : ∀ x ∈ l, InB x) (k : Nat) : InB (bestV m b (l.take k)).1 :=
  best_in _ _ (fun x hx => hl x (List.mem_of_mem_take hx)) ⟨by decide, by decide⟩
/-- What a closure answers that only reads. -/
abbrev Reads (f : Nat) (args : Array Value) (v : Value) (w : World) : Prop := ∀ q, Calls Try.prog f args (w.drewN q) fun e w' => e = .returned v ∧ ∃ t, w' = w.drewN t
set_option maxRecDepth 100000 in
set_option maxHeartbeats 4000000 in
theorem best_any (m : Int → Bool) (b : Int → Int → Bool) (fM fB : Nat) (cM cB : Array Value) (hcM : ∀ a W, (callFunc fM (#[a] ++ cM)).run Try.prog W = .ok (.enter fM (#[a] ++ cM)) W) (hcB : ∀ a a' W, (callFunc fB (#[a, a'] ++ cB)).run Try.prog W = .ok (.enter fB (#[a, a'] ++ cB)) W)
    (A : Option Addr) (l : List Int) (n c : Nat) (hn : n = l.length) (hl : n ≤ 1000000) (hin : ∀ x ∈ l, InB x) (w : World) (h : RI w w.heap.size A l)
    (hM : ∀ x, InB x → Reads fM (#[.int .i64 x] ++ cM) (.bool (m x)) w) (hB : ∀ x y, InB x → InB y → Reads fB (#[.int .i64 x, .int .i64 y] ++ cB) (.bool (b x y)) w) :
    Calls Try.prog 23 #[.slice A n c, .func (.func fM) #[] cM, .func (.func fB) #[] cB] w fun e w' => e = .returned (.tuple #[.int .i64 (bestV m b l).1, .bool (bestV m b l).2]) ∧ ∃ t, w' = w.drewN t := by
  have HR := Lib.hid h
  have HN := Lib.hid hn
  have HM := Lib.hid hM
  have HB := Lib.hid hB
  have HIN := Lib.hid hin
  clear h hn hM hB hin
  go_enter Try.func23, Try.ntmps23
  go_wp2
  go_loopg [8, 9, 14] n (fun gh s8 s9 s14 wx => ∃ k q : Nat, k + gh = n ∧ s14 = .int .i64 k ∧ s8 = .int .i64 (bestV m b (l.take k)).1 ∧ s9 = .bool (bestV m b (l.take k)).2 ∧ wx = w.drewN q)
  case atStart => exact ⟨0, 0, by omega, rfl, rfl, rfl, rfl⟩
  case round =>
    obtain ⟨k, q, hk, rfl, rfl, rfl, rfl⟩ := hrel
    cases gk with
    | zero =>
      obtain rfl : k = n := by omega
      have HZ := Lib.hid (best_all m b l k (by rw [← HN.out]; exact Nat.le_refl _))
      obtain ⟨s, hs⟩ : ∃ s, s = bestV m b (l.take k) := ⟨_, rfl⟩
      rw [← hs]
      have HE := Lib.hid (hs.trans HZ.out)
      clear hs HZ
      go_wp2
      go_ret2
      exact ⟨by rw [← HE.out]; rfl, q, rfl⟩
    | succ gh =>
      have hlt : k < n := by omega
      have hli : (k : Int) < n := by omega
      obtain ⟨bb, off, e, hblt, hc⟩ := HR.out (fun e => by have := HN.out; rw [e] at this; simp at this; omega)
      subst e
      have hck : (w.drewN q).cell? ⟨bb, off + k, none⟩ = some (.int .i64 (l[k]?.getD 0)) := ((belN' w q).cell (p := ⟨bb, off + k, none⟩) hblt).trans (hc k (HN.out ▸ hlt))
      have HS := Lib.hid (best_snoc m b l k (HN.out ▸ hlt))
      have HX : Hid (InB (l[k]?.getD 0)) := Lib.hid (HIN.out _ (nthI_mem (HN.out ▸ hlt)))
      have HV := Lib.hid (bestV_in (m := m) (b := b) l HIN.out k)
      have HM1 := Lib.hid (HM.out _ HX.out)
      have HB1 := Lib.hid (HB.out _ _ HX.out HV.out)
      clear hc hblt HR HM HB HX HV HIN
      obtain ⟨s', hs'⟩ : ∃ s', s' = bestV m b (l.take (k + 1)) := ⟨_, rfl⟩
      have HS' := Lib.hid hs'
      rw [HS.out] at hs'
      clear HS
      generalize bestV m b (l.take k) = s at *
      generalize l[k]?.getD 0 = x at *
      obtain ⟨v, f⟩ := s
      unfold stp at hs'
      simp only at hs' HB1
      cases hmx : m x with
      | false =>
        rw [hmx] at hs' HM1
        simp only [Bool.false_eq_true, if_false] at hs'
        subst hs'
        go_wp2_with (first | ((with_reducible refine (HM1.out q).mono ?_); rintro e w1 ⟨rfl, q1, rfl⟩))
        go_roundg gh
        case measure => omega
        case rel => exact ⟨k + 1, q1, by omega, by go_num, by rw [← HS'.out], by rw [← HS'.out], rfl⟩
      | true =>
        rw [hmx] at hs' HM1
        simp only [if_true] at hs'
        cases f with
        | false =>
          simp only [Bool.not_false, if_true] at hs'
          subst hs'
          go_wp2_with (first | ((with_reducible refine (HM1.out q).mono ?_); rintro e w1 ⟨rfl, q1, rfl⟩))
          go_roundg gh
          case measure => omega
          case rel => exact ⟨k + 1, q1, by omega, by go_num, by rw [← HS'.out], by rw [← HS'.out], rfl⟩
        | true =>
          simp only [Bool.not_true, Bool.false_eq_true, if_false] at hs'
          cases hbx : b x v with
          | false =>
            rw [hbx] at hs' HB1
            simp only [Bool.false_eq_true, if_false] at hs'
            subst hs'
            go_wp2_with (first
              | ((with_reducible refine (HM1.out q).mono ?_); rintro e w1 ⟨rfl, q1, rfl⟩)
              | ((with_reducible refine (HB1.out q1).mono ?_); rintro e w2 ⟨rfl, q2, rfl⟩))
            go_roundg gh
            case measure => omega
            case rel => exact ⟨k + 1, q2, by omega, by go_num, by rw [← HS'.out], by rw [← HS'.out], rfl⟩
          | true =>
            rw [hbx] at hs' HB1
            simp only [if_true] at hs'
            subst hs'
            go_wp2_with (first
              | ((with_reducible refine (HM1.out q).mono ?_); rintro e w1 ⟨rfl, q1, rfl⟩)
              | ((with_reducible refine (HB1.out q1).mono ?_); rintro e w2 ⟨rfl, q2, rfl⟩))
            go_roundg gh
            case measure => omega
            case rel => exact ⟨k + 1, q2, by omega, by go_num, by rw [← HS'.out], by rw [← HS'.out], rfl⟩

end Go.Proofs.Ytfgnlohnalgnpaa
