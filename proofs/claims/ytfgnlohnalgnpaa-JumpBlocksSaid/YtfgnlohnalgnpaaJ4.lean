/- Next, Ahead, Nearest; the document's Next, Ahead and Far. -/
import Derived.Test.YtfgnlohnalgnpaaJ3
namespace Go.Proofs.Ytfgnlohnalgnpaa
open Go.RowKit

theorem farI_le {a b : Int} (h : b ≤ a) (ha : InB a) (hb : InB b) : IntKind.u64.wrap (IntKind.u64.wrap a - IntKind.u64.wrap b) = (farI a b : Nat) := by
  obtain ⟨h1, h2⟩ := ha
  obtain ⟨h3, h4⟩ := hb
  rw [IntKind.wrap_u64, IntKind.wrap_u64, IntKind.wrap_u64]
  unfold farI
  omega
theorem farI_ge {a b : Int} (h : a ≤ b) (ha : InB a) (hb : InB b) : IntKind.u64.wrap (IntKind.u64.wrap b - IntKind.u64.wrap a) = (farI a b : Nat) := by
  rw [farI_le h hb ha]
  unfold farI
  omega
set_option maxRecDepth 100000 in
set_option maxHeartbeats 2000000 in
theorem apart_any (a b : Int) (ha : InB a) (hb : InB b) (W : World) : Calls Try.prog 30 #[.int .i64 a, .int .i64 b] W fun e w' => e = .returned (.int .u64 (farI a b : Nat)) ∧ W = w' := by
  have HF := Lib.hid fun h : b ≤ a => congrArg (fun z => Ending.returned (.int .u64 z)) (farI_le h ha hb)
  have HG := Lib.hid fun h : a ≤ b => congrArg (fun z => Ending.returned (.int .u64 z)) (farI_ge h ha hb)
  have HE : Hid (a = b → Ending.returned (.int .u64 (IntKind.u64.wrap 0)) = Ending.returned (.int .u64 ((farI a b : Nat) : Int))) := Lib.hid fun e => by
    subst e
    have : farI a a = 0 := by unfold farI; omega
    rw [this]
    rfl
  clear ha hb
  go_enter Try.func30, Try.ntmps30
  go_wp2
  all_goals go_ret
  all_goals refine ⟨?_, rfl⟩
  all_goals first | exact HE.out (by omega) | exact HF.out (by omega) | exact HG.out (by omega)
set_option maxRecDepth 100000 in
set_option maxHeartbeats 2000000 in
theorem far_any (a b : Int) (ha : InB a) (hb : InB b) (W : World) : Calls Try.prog 15 #[.int .i64 a, .int .i64 b] W fun e w' => e = .returned (.int .u64 (farI a b : Nat)) ∧ W = w' := by
  by_cases h : b < a
  · have HW := Lib.hid (farI_le (by omega : b ≤ a) ha hb)
    clear ha hb
    go_enter Try.func15, Try.ntmps15
    go_wp2
    go_ret
    exact ⟨congrArg (fun z => Ending.returned (.int .u64 z)) HW.out, rfl⟩
  · have HW := Lib.hid (farI_ge (by omega : a ≤ b) ha hb)
    clear ha hb
    go_enter Try.func15, Try.ntmps15
    go_wp2
    go_ret
    exact ⟨congrArg (fun z => Ending.returned (.int .u64 z)) HW.out, rfl⟩
theorem box_reads (w : World) (v : Value) (t : TypeId) (q : Nat) : ((w.alloc (.cells #[v] t)).drewN q).cell? ⟨w.heap.size, 0, none⟩ = some v := cell_of_row _ _ 0 _ _ _ (heap_alloc_new w _)
theorem below_box (w : World) (o : Obj) (t : Nat) : Below w.heap.size w ((w.alloc o).drewN t) := bel1 (Below.refl _ _) (belN' _ _)
set_option maxRecDepth 100000 in
theorem nearM_any (x : Int) (W : World) : Calls Try.prog 28 #[.int .i64 x] W fun e w' => e = .returned (.bool true) ∧ W = w' := by
  go_enter Try.func28, Try.ntmps28
  go_wp2
  go_ret
  exact ⟨rfl, rfl⟩

set_option maxRecDepth 100000 in
theorem nextM_any (at_ x : Int) (Q : Nat) (W : World) (hc : W.cell? ⟨Q, 0, none⟩ = some (.int .i64 at_)) : Calls Try.prog 24 #[.int .i64 x, .pointer (some ⟨Q, 0, none⟩)] W fun e w' => e = .returned (.bool (decide (at_ < x))) ∧ W = w' := by
  go_enter Try.func24, Try.ntmps24
  go_wp2
  go_ret
  exact ⟨rfl, rfl⟩
set_option maxRecDepth 100000 in
theorem nextB_any (x y : Int) (W : World) : Calls Try.prog 25 #[.int .i64 x, .int .i64 y] W fun e w' => e = .returned (.bool (decide (x < y))) ∧ W = w' := by
  go_enter Try.func25, Try.ntmps25
  go_wp2
  go_ret
  exact ⟨rfl, rfl⟩
set_option maxRecDepth 100000 in
set_option maxHeartbeats 2000000 in
theorem nextF_any (A : Option Addr) (l : List Int) (n c : Nat) (hn : n = l.length) (hl : n ≤ 1000000) (hin : ∀ x ∈ l, InB x) (at_ : Int) (w : World) (h : RI w w.heap.size A l) :
    Calls Try.prog 10 #[.slice A n c, .int .i64 at_] w fun e w' => e = .returned (.tuple #[.int .i64 (nextV at_ l).1, .bool (nextV at_ l).2]) ∧ Below w.heap.size w w' := by
  have HB : Hid (Calls Try.prog 23 #[.slice A n c, .func (.func 24) #[] #[.pointer (some ⟨w.heap.size, 0, none⟩)], .func (.func 25) #[] #[]] (w.alloc (.cells #[.int .i64 at_] 3)) fun e w' => e = .returned (.tuple #[.int .i64 (nextV at_ l).1, .bool (nextV at_ l).2]) ∧ ∃ t, w' = (w.alloc (.cells #[.int .i64 at_] 3)).drewN t) := Lib.hid <| by
    refine best_any (fun x => decide (at_ < x)) (fun a b => decide (a < b)) 24 25 #[.pointer (some ⟨w.heap.size, 0, none⟩)] #[] (fun a W => by kernel_rfl) (fun a a' W => by kernel_rfl) A l n c hn hl hin _ (h.past (belA (Below.refl _ _) _)) ?_ ?_
    · intro x _ q
      exact (nextM_any at_ x _ _ (box_reads w _ _ q)).mono fun e w' h => ⟨h.1, q, h.2.symm⟩
    · intro x y _ _ q
      exact (nextB_any x y _).mono fun e w' h => ⟨h.1, q, h.2.symm⟩
  clear hin h hn
  generalize nextV at_ l = s at *
  go_enter Try.func10, Try.ntmps10
  go_wp2_with (go_at_call 23; (with_reducible refine HB.out.mono ?_); rintro e w1 ⟨rfl, t, rfl⟩)
  go_ret2
  exact ⟨rfl, below_box _ _ _⟩
set_option maxRecDepth 100000 in
set_option maxHeartbeats 4000000 in
theorem refNext_any (A : Option Addr) (l : List Int) (n c : Nat) (hn : n = l.length) (hl : n ≤ 1000000) (at_ : Int) (w : World) (h : RI w w.heap.size A l) :
    Calls Try.prog 13 #[.slice A n c, .int .i64 at_] w fun e w' => e = .returned (.tuple #[.int .i64 (nextV at_ l).1, .bool (nextV at_ l).2]) ∧ w' = w := by
  have HR := Lib.hid h
  have HN := Lib.hid hn
  clear h hn
  go_enter Try.func13, Try.ntmps13
  go_wp2
  go_loopg [6, 7, 8] n (fun gh s6 s7 s8 wx => ∃ k : Nat, k + gh = n ∧ s8 = .int .i64 k ∧ s6 = .int .i64 (nextV at_ (l.take k)).1 ∧ s7 = .bool (nextV at_ (l.take k)).2 ∧ wx = w)
  case atStart => exact ⟨0, by omega, rfl, rfl, rfl, rfl⟩
  case round =>
    obtain ⟨k, hk, rfl, rfl, rfl, rfl⟩ := hrel
    cases gk with
    | zero =>
      obtain rfl : k = n := by omega
      have HZ : Hid (nextV at_ (l.take k) = nextV at_ l) := Lib.hid (best_all _ _ l k (by rw [← HN.out]; exact Nat.le_refl _))
      obtain ⟨s, hs⟩ : ∃ s, s = nextV at_ (l.take k) := ⟨_, rfl⟩
      rw [← hs]
      have HE := Lib.hid (hs.trans HZ.out)
      clear hs HZ
      go_wp2
      go_ret2
      exact ⟨by rw [← HE.out]; rfl, rfl⟩
    | succ gh =>
      have hlt : k < n := by omega
      have hli : (k : Int) < n := by omega
      obtain ⟨bb, off, e, hblt, hc⟩ := HR.out (fun e => by have := HN.out; rw [e] at this; simp at this; omega)
      subst e
      have hck := hc k (HN.out ▸ hlt)
      have HS : Hid (nextV at_ (l.take (k + 1)) = _) := Lib.hid (best_snoc (fun x => decide (at_ < x)) (fun a b => decide (a < b)) l k (HN.out ▸ hlt))
      clear hc hblt HR
      obtain ⟨s', hs'⟩ : ∃ s', s' = nextV at_ (l.take (k + 1)) := ⟨_, rfl⟩
      have HS' := Lib.hid hs'
      rw [HS.out] at hs'
      clear HS
      change s' = stp _ _ (nextV at_ (l.take k)) _ at hs'
      generalize nextV at_ (l.take k) = s at *
      generalize l[k]?.getD 0 = x at *
      obtain ⟨v, f⟩ := s
      unfold stp at hs'
      simp only at hs'
      by_cases hx : at_ < x
      · simp only [hx, decide_true, if_true] at hs'
        cases f with
        | false =>
          simp only [Bool.not_false, if_true] at hs'
          subst hs'
          go_wp2
          go_roundg gh
          case measure => omega
          case rel => exact ⟨k + 1, by omega, by go_num, by rw [← HS'.out], by rw [← HS'.out], rfl⟩
        | true =>
          simp only [Bool.not_true, Bool.false_eq_true, if_false] at hs'
          by_cases hv : x < v
          · simp only [hv, decide_true, if_true] at hs'
            subst hs'
            go_wp2
            go_roundg gh
            case measure => omega
            case rel => exact ⟨k + 1, by omega, by go_num, by rw [← HS'.out], by rw [← HS'.out], rfl⟩
          · simp only [hv, decide_false, Bool.false_eq_true, if_false] at hs'
            subst hs'
            go_wp2
            go_roundg gh
            case measure => omega
            case rel => exact ⟨k + 1, by omega, by go_num, by rw [← HS'.out], by rw [← HS'.out], rfl⟩
      · simp only [hx, decide_false, Bool.false_eq_true, if_false] at hs'
        subst hs'
        go_wp2
        go_roundg gh
        case measure => omega
        case rel => exact ⟨k + 1, by omega, by go_num, by rw [← HS'.out], by rw [← HS'.out], rfl⟩

set_option maxRecDepth 100000 in
theorem aheadM_any (at_ x : Int) (Q : Nat) (W : World) (hc : W.cell? ⟨Q, 0, none⟩ = some (.int .i64 at_)) : Calls Try.prog 26 #[.int .i64 x, .pointer (some ⟨Q, 0, none⟩)] W fun e w' => e = .returned (.bool (decide (x < at_))) ∧ W = w' := by
  go_enter Try.func26, Try.ntmps26
  go_wp2
  go_ret
  exact ⟨rfl, rfl⟩
set_option maxRecDepth 100000 in
theorem aheadB_any (x y : Int) (W : World) : Calls Try.prog 27 #[.int .i64 x, .int .i64 y] W fun e w' => e = .returned (.bool (decide (y < x))) ∧ W = w' := by
  go_enter Try.func27, Try.ntmps27
  go_wp2
  go_ret
  exact ⟨rfl, rfl⟩
set_option maxRecDepth 100000 in
set_option maxHeartbeats 2000000 in
theorem aheadF_any (A : Option Addr) (l : List Int) (n c : Nat) (hn : n = l.length) (hl : n ≤ 1000000) (hin : ∀ x ∈ l, InB x) (at_ : Int) (w : World) (h : RI w w.heap.size A l) :
    Calls Try.prog 11 #[.slice A n c, .int .i64 at_] w fun e w' => e = .returned (.tuple #[.int .i64 (aheadV at_ l).1, .bool (aheadV at_ l).2]) ∧ Below w.heap.size w w' := by
  have HB : Hid (Calls Try.prog 23 #[.slice A n c, .func (.func 26) #[] #[.pointer (some ⟨w.heap.size, 0, none⟩)], .func (.func 27) #[] #[]] (w.alloc (.cells #[.int .i64 at_] 3)) fun e w' => e = .returned (.tuple #[.int .i64 (aheadV at_ l).1, .bool (aheadV at_ l).2]) ∧ ∃ t, w' = (w.alloc (.cells #[.int .i64 at_] 3)).drewN t) := Lib.hid <| by
    refine best_any (fun x => decide (x < at_)) (fun a b => decide (b < a)) 26 27 #[.pointer (some ⟨w.heap.size, 0, none⟩)] #[] (fun a W => by kernel_rfl) (fun a a' W => by kernel_rfl) A l n c hn hl hin _ (h.past (belA (Below.refl _ _) _)) ?_ ?_
    · intro x _ q
      exact (aheadM_any at_ x _ _ (box_reads w _ _ q)).mono fun e w' h => ⟨h.1, q, h.2.symm⟩
    · intro x y _ _ q
      exact (aheadB_any x y _).mono fun e w' h => ⟨h.1, q, h.2.symm⟩
  clear hin h hn
  generalize aheadV at_ l = s at *
  go_enter Try.func11, Try.ntmps11
  go_wp2_with (go_at_call 23; (with_reducible refine HB.out.mono ?_); rintro e w1 ⟨rfl, t, rfl⟩)
  go_ret2
  exact ⟨rfl, below_box _ _ _⟩
set_option maxRecDepth 100000 in
set_option maxHeartbeats 4000000 in
theorem refAhead_any (A : Option Addr) (l : List Int) (n c : Nat) (hn : n = l.length) (hl : n ≤ 1000000) (at_ : Int) (w : World) (h : RI w w.heap.size A l) :
    Calls Try.prog 14 #[.slice A n c, .int .i64 at_] w fun e w' => e = .returned (.tuple #[.int .i64 (aheadV at_ l).1, .bool (aheadV at_ l).2]) ∧ w' = w := by
  have HR := Lib.hid h
  have HN := Lib.hid hn
  clear h hn
  go_enter Try.func14, Try.ntmps14
  go_wp2
  go_loopg [6, 7, 8] n (fun gh s6 s7 s8 wx => ∃ k : Nat, k + gh = n ∧ s8 = .int .i64 k ∧ s6 = .int .i64 (aheadV at_ (l.take k)).1 ∧ s7 = .bool (aheadV at_ (l.take k)).2 ∧ wx = w)
  case atStart => exact ⟨0, by omega, rfl, rfl, rfl, rfl⟩
  case round =>
    obtain ⟨k, hk, rfl, rfl, rfl, rfl⟩ := hrel
    cases gk with
    | zero =>
      obtain rfl : k = n := by omega
      have HZ : Hid (aheadV at_ (l.take k) = aheadV at_ l) := Lib.hid (best_all _ _ l k (by rw [← HN.out]; exact Nat.le_refl _))
      obtain ⟨s, hs⟩ : ∃ s, s = aheadV at_ (l.take k) := ⟨_, rfl⟩
      rw [← hs]
      have HE := Lib.hid (hs.trans HZ.out)
      clear hs HZ
      go_wp2
      go_ret2
      exact ⟨by rw [← HE.out]; rfl, rfl⟩
    | succ gh =>
      have hlt : k < n := by omega
      have hli : (k : Int) < n := by omega
      obtain ⟨bb, off, e, hblt, hc⟩ := HR.out (fun e => by have := HN.out; rw [e] at this; simp at this; omega)
      subst e
      have hck := hc k (HN.out ▸ hlt)
      have HS : Hid (aheadV at_ (l.take (k + 1)) = _) := Lib.hid (best_snoc (fun x => decide (x < at_)) (fun a b => decide (b < a)) l k (HN.out ▸ hlt))
      clear hc hblt HR
      obtain ⟨s', hs'⟩ : ∃ s', s' = aheadV at_ (l.take (k + 1)) := ⟨_, rfl⟩
      have HS' := Lib.hid hs'
      rw [HS.out] at hs'
      clear HS
      change s' = stp _ _ (aheadV at_ (l.take k)) _ at hs'
      generalize aheadV at_ (l.take k) = s at *
      generalize l[k]?.getD 0 = x at *
      obtain ⟨v, f⟩ := s
      unfold stp at hs'
      simp only at hs'
      by_cases hx : x < at_
      · simp only [hx, decide_true, if_true] at hs'
        cases f with
        | false =>
          simp only [Bool.not_false, if_true] at hs'
          subst hs'
          go_wp2
          go_roundg gh
          case measure => omega
          case rel => exact ⟨k + 1, by omega, by go_num, by rw [← HS'.out], by rw [← HS'.out], rfl⟩
        | true =>
          simp only [Bool.not_true, Bool.false_eq_true, if_false] at hs'
          by_cases hv : v < x
          · simp only [hv, decide_true, if_true] at hs'
            subst hs'
            go_wp2
            go_roundg gh
            case measure => omega
            case rel => exact ⟨k + 1, by omega, by go_num, by rw [← HS'.out], by rw [← HS'.out], rfl⟩
          · simp only [hv, decide_false, Bool.false_eq_true, if_false] at hs'
            subst hs'
            go_wp2
            go_roundg gh
            case measure => omega
            case rel => exact ⟨k + 1, by omega, by go_num, by rw [← HS'.out], by rw [← HS'.out], rfl⟩
      · simp only [hx, decide_false, Bool.false_eq_true, if_false] at hs'
        subst hs'
        go_wp2
        go_roundg gh
        case measure => omega
        case rel => exact ⟨k + 1, by omega, by go_num, by rw [← HS'.out], by rw [← HS'.out], rfl⟩

end Go.Proofs.Ytfgnlohnalgnpaa
