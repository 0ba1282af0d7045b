/- Nearest, Step. -/
import Derived.Test.YtfgnlohnalgnpaaJ6
namespace Go.Proofs.Ytfgnlohnalgnpaa
open Go.RowKit

theorem apartQ (a b : Int) (ha : InB a) (hb : InB b) (W : World) : Calls Try.prog 30 #[.int .i64 a, .int .i64 b] W fun e w' => e = .returned (.int .u64 (farI a b : Nat)) ∧ ∃ m, w' = W.drewN m :=
  (apart_any a b ha hb W).mono fun _ _ h => ⟨h.1, 0, h.2.symm⟩
set_option maxRecDepth 100000 in
set_option maxHeartbeats 4000000 in
theorem nearB_any (at_ x y : Int) (ha : InB at_) (hx : InB x) (hy : InB y) (Q : Nat) (W : World) (hc : W.cell? ⟨Q, 0, none⟩ = some (.int .i64 at_)) :
    Calls Try.prog 29 #[.int .i64 x, .int .i64 y, .pointer (some ⟨Q, 0, none⟩)] W fun e w' => e = .returned (.bool (nearB at_ x y)) ∧ ∃ m, w' = W.drewN m := by
  have HH : Hid (∀ z, z = x ∨ z = y → ∀ W, Calls Try.prog 30 #[.int .i64 z, .int .i64 at_] W fun e w' => e = .returned (.int .u64 (farI z at_ : Nat)) ∧ ∃ m, w' = W.drewN m) := Lib.hid fun z hz W => apartQ z at_ (hz.elim (fun e => e ▸ hx) (fun e => e ▸ hy)) ha W
  have HZ : Hid (nearB at_ x y = (decide (farI x at_ < farI y at_) || (decide (farI x at_ = farI y at_) && decide (x < y)))) := Lib.hid rfl
  generalize nearB at_ x y = r at *
  clear ha hx hy
  rcases Nat.lt_trichotomy (farI x at_) (farI y at_) with h | h | h
  · have hr : r = true := by rw [HZ.out, decide_eq_true h]; rfl
    have hi : ((farI x at_ : Nat) : Int) < (farI y at_ : Nat) := by omega
    subst hr
    clear HZ h
    go_enter Try.func29, Try.ntmps29
    go_wp2
    go_quiet ((go_at_call 30; refine Calls.quiet_of (HH.out _ (by first | exact .inl rfl | exact .inr rfl) _)))
    all_goals go_wp2
    all_goals go_ret
    all_goals exact ⟨rfl, _, rfl⟩
  · have hi : ¬ ((farI x at_ : Nat) : Int) < (farI y at_ : Nat) := by omega
    have hk : ((farI x at_ : Nat) : Int) = (farI y at_ : Nat) := by omega
    by_cases hxy : x < y
    · have hr : r = true := by rw [HZ.out, decide_eq_true h, decide_eq_true hxy]; simp
      subst hr
      clear HZ h
      go_enter Try.func29, Try.ntmps29
      go_wp2
      go_quiet ((go_at_call 30; refine Calls.quiet_of (HH.out _ (by first | exact .inl rfl | exact .inr rfl) _)))
      all_goals go_wp2
      all_goals go_ret
      all_goals exact ⟨rfl, _, rfl⟩
    · have hr : r = false := by rw [HZ.out, decide_eq_false hxy, h]; simp
      subst hr
      clear HZ h
      go_enter Try.func29, Try.ntmps29
      go_wp2
      go_quiet ((go_at_call 30; refine Calls.quiet_of (HH.out _ (by first | exact .inl rfl | exact .inr rfl) _)))
      all_goals go_wp2
      all_goals go_ret
      all_goals exact ⟨congrArg (fun b => Ending.returned (.bool b)) (decide_eq_false (by omega)), _, rfl⟩
  · have hr : r = false := by rw [HZ.out, decide_eq_false (by omega : ¬ farI x at_ < farI y at_), decide_eq_false (by omega : ¬ farI x at_ = farI y at_)]; rfl
    have hi : ¬ ((farI x at_ : Nat) : Int) < (farI y at_ : Nat) := by omega
    have hm : ¬ farI x at_ < farI y at_ := by omega
    have hk : ¬ ((farI x at_ : Nat) : Int) = (farI y at_ : Nat) := by omega
    subst hr
    clear HZ h
    go_enter Try.func29, Try.ntmps29
    go_wp2
    go_quiet ((go_at_call 30; refine Calls.quiet_of (HH.out _ (by first | exact .inl rfl | exact .inr rfl) _)))
    all_goals go_wp2
    all_goals go_ret
    all_goals exact ⟨rfl, _, rfl⟩
set_option maxRecDepth 100000 in
set_option maxHeartbeats 2000000 in
theorem nearF_any (A : Option Addr) (l : List Int) (n c : Nat) (hn : n = l.length) (hl : n ≤ 1000000) (hin : ∀ x ∈ l, InB x) (at_ : Int) (ha : InB at_) (w : World) (h : RI w w.heap.size A l) :
    Calls Try.prog 12 #[.slice A n c, .int .i64 at_] w fun e w' => e = .returned (.tuple #[.int .i64 (nearV at_ l).1, .bool (nearV at_ l).2]) ∧ Below w.heap.size w w' := by
  have HB : Hid (Calls Try.prog 23 #[.slice A n c, .func (.func 28) #[] #[], .func (.func 29) #[] #[.pointer (some ⟨w.heap.size, 0, none⟩)]] (w.alloc (.cells #[.int .i64 at_] 3)) fun e w' => e = .returned (.tuple #[.int .i64 (nearV at_ l).1, .bool (nearV at_ l).2]) ∧ ∃ t, w' = (w.alloc (.cells #[.int .i64 at_] 3)).drewN t) := Lib.hid <| by
    refine best_any (fun _ => true) (nearB at_) 28 29 #[] #[.pointer (some ⟨w.heap.size, 0, none⟩)] (fun a W => by kernel_rfl) (fun a a' W => by kernel_rfl) A l n c hn hl hin _ (h.past (belA (Below.refl _ _) _)) ?_ ?_
    · intro x _ q
      exact (nearM_any x _).mono fun e w' h => ⟨h.1, q, h.2.symm⟩
    · intro x y hx hy q
      exact (nearB_any at_ x y ha hx hy _ _ (box_reads w _ _ q)).mono fun e w' ⟨he, m, hw⟩ => ⟨he, q + m, by rw [hw, World.drewN_drewN]⟩
  clear hin h hn ha
  generalize nearV at_ l = s at *
  go_enter Try.func12, Try.ntmps12
  go_wp2_with (go_at_call 23; (with_reducible refine HB.out.mono ?_); rintro e w1 ⟨rfl, t, rfl⟩)
  go_ret2
  exact ⟨rfl, below_box _ _ _⟩
theorem bsearch_any (A : Option Addr) (U : List Int) (n c : Nat) (hn : n = U.length) (hl : n ≤ 1000000) (hU : U.Pairwise (· < ·)) (x : Int) (w : World) (h : RI w w.heap.size A U) :
    Calls Try.prog 31 #[.slice A n c, .int .i64 x] w fun e w' => e = .returned (.tuple #[.int .i64 (belV U x : Nat), .bool (U.contains x)]) ∧ ∃ q, w' = w.drewN q := by
  subst hn
  by_cases hne : U = []
  · subst hne
    exact (Try.slices_BinarySearch_int_empty A c x w).mono fun e w' h => ⟨h.1, 0, h.2⟩
  · obtain ⟨b, off, rfl, hlt, hc⟩ := h hne
    have := Try.slices_BinarySearch_int b off U.length c U x w (Nat.le_refl _) (by omega) (fun j hj => by rw [hc j hj, List.getD_eq_getElem?_getD]) (by rw [List.take_length]; exact hU.imp Int.le_of_lt)
    rw [List.take_length] at this
    exact this

end Go.Proofs.Ytfgnlohnalgnpaa
