/- Step, one theorem a way. -/
import Derived.Test.YtfgnlohnalgnpaaJ7
namespace Go.Proofs.Ytfgnlohnalgnpaa
open Go.RowKit

set_option maxRecDepth 100000 in
set_option maxHeartbeats 4000000 in
theorem step_upT (A : Option Addr) (l : List Int) (n c : Nat) (at_ : Int) (nn : Int) (bl len : Nat) (hlen : len = (uqI l).length) (hl : len ≤ 1000000) (w : World)
    (HS : Hid (Calls Try.prog 18 #[.slice A n c] w (NumsPost (uqI l) w))) (HB : Hid (∀ W A1 c1, RI W W.heap.size A1 (uqI l) → Calls Try.prog 31 #[.slice A1 len c1, .int .i64 at_] W fun e w' => e = .returned (.tuple #[.int .i64 (bl : Nat), .bool true]) ∧ ∃ q, w' = W.drewN q))
    (hnn : 0 < nn ∧ nn ≤ 9223372036854775807) (i : Nat) (hi : i = (bl + 1) + min (nn.toNat - 1) (len - 1 - (bl + 1))) (hal0 : (bl + 1) < len) :
    Calls Try.prog 16 #[.slice A n c, .int .i64 at_, .int .i64 nn] w fun e w' => e = .returned (.int .i64 (nthI (uqI l) i)) ∧ Below w.heap.size w w' := by
  have HL := Lib.hid hlen
  have hw0 : IntKind.i64.wrap ((bl : Int) + 1) = ((bl + 1 : Nat) : Int) := by rw [IntWalk.i64_in _ (by omega)]; omega
  have hn0 : (0 : Int) < nn := by omega
  have hal : (((bl + 1) : Nat) : Int) < len := by omega
  have hw1 : IntKind.i64.wrap (nn - 1) = nn - 1 := IntWalk.i64_in _ (by omega)
  have hw2 : IntKind.i64.wrap ((len : Int) - 1) = (len : Int) - 1 := IntWalk.i64_in _ (by omega)
  have hw3 : IntKind.i64.wrap ((len : Int) - 1 - ((bl + 1) : Nat)) = (len : Int) - 1 - ((bl + 1) : Nat) := IntWalk.i64_in _ (by omega)
  have hm : ((((bl + 1) : Nat) : Int) + min (nn - 1) ((len : Int) - 1 - ((bl + 1) : Nat))).toNat = i := by omega
  have hw4 : IntKind.i64.wrap ((((bl + 1) : Nat) : Int) + min (nn - 1) ((len : Int) - 1 - ((bl + 1) : Nat))) = (((bl + 1) : Nat) : Int) + min (nn - 1) ((len : Int) - 1 - ((bl + 1) : Nat)) := IntWalk.i64_in _ (by omega)
  have hne : Hid (uqI l ≠ []) := Lib.hid fun e => by have := HL.out; rw [e] at this; simp at this; omega
  have hii : (i : Int) < len := by omega
  have HI : Hid (i < (uqI l).length) := Lib.hid (by rw [← HL.out]; omega)
  generalize hab : bl + 1 = ab at *
  clear hlen hi
  go_enter Try.func16, Try.ntmps16
  go_wp2_with (first
    | (go_at_call 18; (with_reducible refine HS.out.mono ?_); rintro e w1 ⟨A1, c1, he, hr, hb⟩; rw [← HL.out] at he; subst he; have HR1 := Lib.hid hr; have HB1 := Lib.hid hb; clear hr hb HS)
    | (go_at_call 31; (with_reducible refine (HB.out w1 A1 c1 HR1.out).mono ?_); rintro e w2 ⟨rfl, q, hq⟩; obtain ⟨g, off, rfl, hgl, hc⟩ := HR1.out hne.out; have hci : w2.cell? ⟨g, off + i, none⟩ = some (.int .i64 (nthI (uqI l) i)) := (by rw [hq]; exact hc i HI.out); have HB2 := Lib.hid (bel0 HB1.out (hq ▸ belN' w1 q)); clear hq hc HB hgl HR1 hne HI HB1; obtain ⟨y, hy⟩ : ∃ y, y = nthI (uqI l) i := ⟨_, rfl⟩; rw [← hy] at hci; have HY := Lib.hid hy; clear hy))
  go_ret
  exact ⟨by rw [← HY.out]; rfl, HB2.out⟩

set_option maxRecDepth 100000 in
set_option maxHeartbeats 4000000 in
theorem step_dnT (A : Option Addr) (l : List Int) (n c : Nat) (at_ : Int) (nn : Int) (bl len : Nat) (hlen : len = (uqI l).length) (hl : len ≤ 1000000) (hbl : bl ≤ len) (w : World)
    (HS : Hid (Calls Try.prog 18 #[.slice A n c] w (NumsPost (uqI l) w))) (HB : Hid (∀ W A1 c1, RI W W.heap.size A1 (uqI l) → Calls Try.prog 31 #[.slice A1 len c1, .int .i64 at_] W fun e w' => e = .returned (.tuple #[.int .i64 (bl : Nat), .bool true]) ∧ ∃ q, w' = W.drewN q))
    (hnn : nn < 0 ∧ -9223372036854775808 ≤ nn) (i : Nat) (hi : i = bl - (-nn).toNat) (hb1 : 0 < bl) :
    Calls Try.prog 16 #[.slice A n c, .int .i64 at_, .int .i64 nn] w fun e w' => e = .returned (.int .i64 (nthI (uqI l) i)) ∧ Below w.heap.size w w' := by
  have HL := Lib.hid hlen
  have hw0 : IntKind.i64.wrap ((bl : Int) + 1) = ((bl + 1 : Nat) : Int) := by rw [IntWalk.i64_in _ (by omega)]; omega
  have hn0 : ¬ (0 : Int) < nn := by omega
  have hn1 : nn < 0 := by omega
  have hb0 : (0 : Int) < bl := by omega
  have hw1 : IntKind.i64.wrap ((bl : Int) + nn) = (bl : Int) + nn := IntWalk.i64_in _ (by omega)
  have hm : (max ((bl : Int) + nn) 0).toNat = i := by omega
  have hne : Hid (uqI l ≠ []) := Lib.hid fun e => by have := HL.out; rw [e] at this; simp at this; omega
  have hii : (i : Int) < len := by omega
  have HI : Hid (i < (uqI l).length) := Lib.hid (by rw [← HL.out]; omega)
  generalize hab : bl + 1 = ab at *
  clear hlen hi
  go_enter Try.func16, Try.ntmps16
  go_wp2_with (first
    | (go_at_call 18; (with_reducible refine HS.out.mono ?_); rintro e w1 ⟨A1, c1, he, hr, hb⟩; rw [← HL.out] at he; subst he; have HR1 := Lib.hid hr; have HB1 := Lib.hid hb; clear hr hb HS)
    | (go_at_call 31; (with_reducible refine (HB.out w1 A1 c1 HR1.out).mono ?_); rintro e w2 ⟨rfl, q, hq⟩; obtain ⟨g, off, rfl, hgl, hc⟩ := HR1.out hne.out; have hci : w2.cell? ⟨g, off + i, none⟩ = some (.int .i64 (nthI (uqI l) i)) := (by rw [hq]; exact hc i HI.out); have HB2 := Lib.hid (bel0 HB1.out (hq ▸ belN' w1 q)); clear hq hc HB hgl HR1 hne HI HB1; obtain ⟨y, hy⟩ : ∃ y, y = nthI (uqI l) i := ⟨_, rfl⟩; rw [← hy] at hci; have HY := Lib.hid hy; clear hy))
  go_ret
  exact ⟨by rw [← HY.out]; rfl, HB2.out⟩

set_option maxRecDepth 100000 in
set_option maxHeartbeats 4000000 in
theorem step_at1T (A : Option Addr) (l : List Int) (n c : Nat) (at_ : Int) (nn : Int) (bl len : Nat) (hlen : len = (uqI l).length) (hl : len ≤ 1000000) (hbl : bl ≤ len) (w : World)
    (HS : Hid (Calls Try.prog 18 #[.slice A n c] w (NumsPost (uqI l) w))) (HB : Hid (∀ W A1 c1, RI W W.heap.size A1 (uqI l) → Calls Try.prog 31 #[.slice A1 len c1, .int .i64 at_] W fun e w' => e = .returned (.tuple #[.int .i64 (bl : Nat), .bool true]) ∧ ∃ q, w' = W.drewN q))
    (hnn : nn = 0) :
    Calls Try.prog 16 #[.slice A n c, .int .i64 at_, .int .i64 nn] w fun e w' => e = .returned (.int .i64 at_) ∧ Below w.heap.size w w' := by
  have HL := Lib.hid hlen
  have hw0 : IntKind.i64.wrap ((bl : Int) + 1) = ((bl + 1 : Nat) : Int) := by rw [IntWalk.i64_in _ (by omega)]; omega
  subst hnn
  generalize hab : bl + 1 = ab at *
  clear hlen
  go_enter Try.func16, Try.ntmps16
  go_wp2_with (first
    | (go_at_call 18; (with_reducible refine HS.out.mono ?_); rintro e w1 ⟨A1, c1, he, hr, hb⟩; rw [← HL.out] at he; subst he; have HR1 := Lib.hid hr; have HB1 := Lib.hid hb; clear hr hb HS)
    | (go_at_call 31; (with_reducible refine (HB.out w1 A1 c1 HR1.out).mono ?_); rintro e w2 ⟨rfl, q, hq⟩; have HB2 := Lib.hid (bel0 HB1.out (hq ▸ belN' w1 q)); clear hq HB HR1 HB1))
  go_ret
  exact ⟨rfl, HB2.out⟩

set_option maxRecDepth 100000 in
set_option maxHeartbeats 4000000 in
theorem step_at2T (A : Option Addr) (l : List Int) (n c : Nat) (at_ : Int) (nn : Int) (bl len : Nat) (hlen : len = (uqI l).length) (hl : len ≤ 1000000) (hbl : bl ≤ len) (w : World)
    (HS : Hid (Calls Try.prog 18 #[.slice A n c] w (NumsPost (uqI l) w))) (HB : Hid (∀ W A1 c1, RI W W.heap.size A1 (uqI l) → Calls Try.prog 31 #[.slice A1 len c1, .int .i64 at_] W fun e w' => e = .returned (.tuple #[.int .i64 (bl : Nat), .bool true]) ∧ ∃ q, w' = W.drewN q))
    (hnn : 0 < nn) (hal0 : len ≤ (bl + 1)) :
    Calls Try.prog 16 #[.slice A n c, .int .i64 at_, .int .i64 nn] w fun e w' => e = .returned (.int .i64 at_) ∧ Below w.heap.size w w' := by
  have HL := Lib.hid hlen
  have hw0 : IntKind.i64.wrap ((bl : Int) + 1) = ((bl + 1 : Nat) : Int) := by rw [IntWalk.i64_in _ (by omega)]; omega
  have hal : ¬ (((bl + 1) : Nat) : Int) < len := by omega
  have hn1 : ¬ nn < 0 := by omega
  generalize hab : bl + 1 = ab at *
  clear hlen
  go_enter Try.func16, Try.ntmps16
  go_wp2_with (first
    | (go_at_call 18; (with_reducible refine HS.out.mono ?_); rintro e w1 ⟨A1, c1, he, hr, hb⟩; rw [← HL.out] at he; subst he; have HR1 := Lib.hid hr; have HB1 := Lib.hid hb; clear hr hb HS)
    | (go_at_call 31; (with_reducible refine (HB.out w1 A1 c1 HR1.out).mono ?_); rintro e w2 ⟨rfl, q, hq⟩; have HB2 := Lib.hid (bel0 HB1.out (hq ▸ belN' w1 q)); clear hq HB HR1 HB1))
  go_ret
  exact ⟨rfl, HB2.out⟩

set_option maxRecDepth 100000 in
set_option maxHeartbeats 4000000 in
theorem step_at3T (A : Option Addr) (l : List Int) (n c : Nat) (at_ : Int) (nn : Int) (bl len : Nat) (hlen : len = (uqI l).length) (w : World)
    (HS : Hid (Calls Try.prog 18 #[.slice A n c] w (NumsPost (uqI l) w))) (HB : Hid (∀ W A1 c1, RI W W.heap.size A1 (uqI l) → Calls Try.prog 31 #[.slice A1 len c1, .int .i64 at_] W fun e w' => e = .returned (.tuple #[.int .i64 (bl : Nat), .bool true]) ∧ ∃ q, w' = W.drewN q))
    (hnn : nn < 0) (hb1 : bl = 0) :
    Calls Try.prog 16 #[.slice A n c, .int .i64 at_, .int .i64 nn] w fun e w' => e = .returned (.int .i64 at_) ∧ Below w.heap.size w w' := by
  have HL := Lib.hid hlen
  have hw0 : IntKind.i64.wrap ((bl : Int) + 1) = ((bl + 1 : Nat) : Int) := by rw [IntWalk.i64_in _ (by omega)]; omega
  have hn0 : ¬ (0 : Int) < nn := by omega
  have hb0 : ¬ (0 : Int) < bl := by omega
  generalize hab : bl + 1 = ab at *
  clear hlen
  go_enter Try.func16, Try.ntmps16
  go_wp2_with (first
    | (go_at_call 18; (with_reducible refine HS.out.mono ?_); rintro e w1 ⟨A1, c1, he, hr, hb⟩; rw [← HL.out] at he; subst he; have HR1 := Lib.hid hr; have HB1 := Lib.hid hb; clear hr hb HS)
    | (go_at_call 31; (with_reducible refine (HB.out w1 A1 c1 HR1.out).mono ?_); rintro e w2 ⟨rfl, q, hq⟩; have HB2 := Lib.hid (bel0 HB1.out (hq ▸ belN' w1 q)); clear hq HB HR1 HB1))
  go_ret
  exact ⟨rfl, HB2.out⟩

set_option maxRecDepth 100000 in
set_option maxHeartbeats 4000000 in
theorem step_upF (A : Option Addr) (l : List Int) (n c : Nat) (at_ : Int) (nn : Int) (bl len : Nat) (hlen : len = (uqI l).length) (hl : len ≤ 1000000) (w : World)
    (HS : Hid (Calls Try.prog 18 #[.slice A n c] w (NumsPost (uqI l) w))) (HB : Hid (∀ W A1 c1, RI W W.heap.size A1 (uqI l) → Calls Try.prog 31 #[.slice A1 len c1, .int .i64 at_] W fun e w' => e = .returned (.tuple #[.int .i64 (bl : Nat), .bool false]) ∧ ∃ q, w' = W.drewN q))
    (hnn : 0 < nn ∧ nn ≤ 9223372036854775807) (i : Nat) (hi : i = bl + min (nn.toNat - 1) (len - 1 - bl)) (hal0 : bl < len) :
    Calls Try.prog 16 #[.slice A n c, .int .i64 at_, .int .i64 nn] w fun e w' => e = .returned (.int .i64 (nthI (uqI l) i)) ∧ Below w.heap.size w w' := by
  have HL := Lib.hid hlen
  have hn0 : (0 : Int) < nn := by omega
  have hal : ((bl : Nat) : Int) < len := by omega
  have hw1 : IntKind.i64.wrap (nn - 1) = nn - 1 := IntWalk.i64_in _ (by omega)
  have hw2 : IntKind.i64.wrap ((len : Int) - 1) = (len : Int) - 1 := IntWalk.i64_in _ (by omega)
  have hw3 : IntKind.i64.wrap ((len : Int) - 1 - (bl : Nat)) = (len : Int) - 1 - (bl : Nat) := IntWalk.i64_in _ (by omega)
  have hm : (((bl : Nat) : Int) + min (nn - 1) ((len : Int) - 1 - (bl : Nat))).toNat = i := by omega
  have hw4 : IntKind.i64.wrap (((bl : Nat) : Int) + min (nn - 1) ((len : Int) - 1 - (bl : Nat))) = ((bl : Nat) : Int) + min (nn - 1) ((len : Int) - 1 - (bl : Nat)) := IntWalk.i64_in _ (by omega)
  have hne : Hid (uqI l ≠ []) := Lib.hid fun e => by have := HL.out; rw [e] at this; simp at this; omega
  have hii : (i : Int) < len := by omega
  have HI : Hid (i < (uqI l).length) := Lib.hid (by rw [← HL.out]; omega)
  clear hlen hi
  go_enter Try.func16, Try.ntmps16
  go_wp2_with (first
    | (go_at_call 18; (with_reducible refine HS.out.mono ?_); rintro e w1 ⟨A1, c1, he, hr, hb⟩; rw [← HL.out] at he; subst he; have HR1 := Lib.hid hr; have HB1 := Lib.hid hb; clear hr hb HS)
    | (go_at_call 31; (with_reducible refine (HB.out w1 A1 c1 HR1.out).mono ?_); rintro e w2 ⟨rfl, q, hq⟩; obtain ⟨g, off, rfl, hgl, hc⟩ := HR1.out hne.out; have hci : w2.cell? ⟨g, off + i, none⟩ = some (.int .i64 (nthI (uqI l) i)) := (by rw [hq]; exact hc i HI.out); have HB2 := Lib.hid (bel0 HB1.out (hq ▸ belN' w1 q)); clear hq hc HB hgl HR1 hne HI HB1; obtain ⟨y, hy⟩ : ∃ y, y = nthI (uqI l) i := ⟨_, rfl⟩; rw [← hy] at hci; have HY := Lib.hid hy; clear hy))
  go_ret
  exact ⟨by rw [← HY.out]; rfl, HB2.out⟩

set_option maxRecDepth 100000 in
set_option maxHeartbeats 4000000 in
theorem step_dnF (A : Option Addr) (l : List Int) (n c : Nat) (at_ : Int) (nn : Int) (bl len : Nat) (hlen : len = (uqI l).length) (hl : len ≤ 1000000) (hbl : bl ≤ len) (w : World)
    (HS : Hid (Calls Try.prog 18 #[.slice A n c] w (NumsPost (uqI l) w))) (HB : Hid (∀ W A1 c1, RI W W.heap.size A1 (uqI l) → Calls Try.prog 31 #[.slice A1 len c1, .int .i64 at_] W fun e w' => e = .returned (.tuple #[.int .i64 (bl : Nat), .bool false]) ∧ ∃ q, w' = W.drewN q))
    (hnn : nn < 0 ∧ -9223372036854775808 ≤ nn) (i : Nat) (hi : i = bl - (-nn).toNat) (hb1 : 0 < bl) :
    Calls Try.prog 16 #[.slice A n c, .int .i64 at_, .int .i64 nn] w fun e w' => e = .returned (.int .i64 (nthI (uqI l) i)) ∧ Below w.heap.size w w' := by
  have HL := Lib.hid hlen
  have hn0 : ¬ (0 : Int) < nn := by omega
  have hn1 : nn < 0 := by omega
  have hb0 : (0 : Int) < bl := by omega
  have hw1 : IntKind.i64.wrap ((bl : Int) + nn) = (bl : Int) + nn := IntWalk.i64_in _ (by omega)
  have hm : (max ((bl : Int) + nn) 0).toNat = i := by omega
  have hne : Hid (uqI l ≠ []) := Lib.hid fun e => by have := HL.out; rw [e] at this; simp at this; omega
  have hii : (i : Int) < len := by omega
  have HI : Hid (i < (uqI l).length) := Lib.hid (by rw [← HL.out]; omega)
  clear hlen hi
  go_enter Try.func16, Try.ntmps16
  go_wp2_with (first
    | (go_at_call 18; (with_reducible refine HS.out.mono ?_); rintro e w1 ⟨A1, c1, he, hr, hb⟩; rw [← HL.out] at he; subst he; have HR1 := Lib.hid hr; have HB1 := Lib.hid hb; clear hr hb HS)
    | (go_at_call 31; (with_reducible refine (HB.out w1 A1 c1 HR1.out).mono ?_); rintro e w2 ⟨rfl, q, hq⟩; obtain ⟨g, off, rfl, hgl, hc⟩ := HR1.out hne.out; have hci : w2.cell? ⟨g, off + i, none⟩ = some (.int .i64 (nthI (uqI l) i)) := (by rw [hq]; exact hc i HI.out); have HB2 := Lib.hid (bel0 HB1.out (hq ▸ belN' w1 q)); clear hq hc HB hgl HR1 hne HI HB1; obtain ⟨y, hy⟩ : ∃ y, y = nthI (uqI l) i := ⟨_, rfl⟩; rw [← hy] at hci; have HY := Lib.hid hy; clear hy))
  go_ret
  exact ⟨by rw [← HY.out]; rfl, HB2.out⟩

set_option maxRecDepth 100000 in
set_option maxHeartbeats 4000000 in
theorem step_at1F (A : Option Addr) (l : List Int) (n c : Nat) (at_ : Int) (nn : Int) (bl len : Nat) (hlen : len = (uqI l).length) (w : World)
    (HS : Hid (Calls Try.prog 18 #[.slice A n c] w (NumsPost (uqI l) w))) (HB : Hid (∀ W A1 c1, RI W W.heap.size A1 (uqI l) → Calls Try.prog 31 #[.slice A1 len c1, .int .i64 at_] W fun e w' => e = .returned (.tuple #[.int .i64 (bl : Nat), .bool false]) ∧ ∃ q, w' = W.drewN q))
    (hnn : nn = 0) :
    Calls Try.prog 16 #[.slice A n c, .int .i64 at_, .int .i64 nn] w fun e w' => e = .returned (.int .i64 at_) ∧ Below w.heap.size w w' := by
  have HL := Lib.hid hlen
  subst hnn
  clear hlen
  go_enter Try.func16, Try.ntmps16
  go_wp2_with (first
    | (go_at_call 18; (with_reducible refine HS.out.mono ?_); rintro e w1 ⟨A1, c1, he, hr, hb⟩; rw [← HL.out] at he; subst he; have HR1 := Lib.hid hr; have HB1 := Lib.hid hb; clear hr hb HS)
    | (go_at_call 31; (with_reducible refine (HB.out w1 A1 c1 HR1.out).mono ?_); rintro e w2 ⟨rfl, q, hq⟩; have HB2 := Lib.hid (bel0 HB1.out (hq ▸ belN' w1 q)); clear hq HB HR1 HB1))
  go_ret
  exact ⟨rfl, HB2.out⟩

set_option maxRecDepth 100000 in
set_option maxHeartbeats 4000000 in
theorem step_at2F (A : Option Addr) (l : List Int) (n c : Nat) (at_ : Int) (nn : Int) (bl len : Nat) (hlen : len = (uqI l).length) (w : World)
    (HS : Hid (Calls Try.prog 18 #[.slice A n c] w (NumsPost (uqI l) w))) (HB : Hid (∀ W A1 c1, RI W W.heap.size A1 (uqI l) → Calls Try.prog 31 #[.slice A1 len c1, .int .i64 at_] W fun e w' => e = .returned (.tuple #[.int .i64 (bl : Nat), .bool false]) ∧ ∃ q, w' = W.drewN q))
    (hnn : 0 < nn) (hal0 : len ≤ bl) :
    Calls Try.prog 16 #[.slice A n c, .int .i64 at_, .int .i64 nn] w fun e w' => e = .returned (.int .i64 at_) ∧ Below w.heap.size w w' := by
  have HL := Lib.hid hlen
  have hal : ¬ ((bl : Nat) : Int) < len := by omega
  have hn1 : ¬ nn < 0 := by omega
  clear hlen
  go_enter Try.func16, Try.ntmps16
  go_wp2_with (first
    | (go_at_call 18; (with_reducible refine HS.out.mono ?_); rintro e w1 ⟨A1, c1, he, hr, hb⟩; rw [← HL.out] at he; subst he; have HR1 := Lib.hid hr; have HB1 := Lib.hid hb; clear hr hb HS)
    | (go_at_call 31; (with_reducible refine (HB.out w1 A1 c1 HR1.out).mono ?_); rintro e w2 ⟨rfl, q, hq⟩; have HB2 := Lib.hid (bel0 HB1.out (hq ▸ belN' w1 q)); clear hq HB HR1 HB1))
  go_ret
  exact ⟨rfl, HB2.out⟩

set_option maxRecDepth 100000 in
set_option maxHeartbeats 4000000 in
theorem step_at3F (A : Option Addr) (l : List Int) (n c : Nat) (at_ : Int) (nn : Int) (bl len : Nat) (hlen : len = (uqI l).length) (w : World)
    (HS : Hid (Calls Try.prog 18 #[.slice A n c] w (NumsPost (uqI l) w))) (HB : Hid (∀ W A1 c1, RI W W.heap.size A1 (uqI l) → Calls Try.prog 31 #[.slice A1 len c1, .int .i64 at_] W fun e w' => e = .returned (.tuple #[.int .i64 (bl : Nat), .bool false]) ∧ ∃ q, w' = W.drewN q))
    (hnn : nn < 0) (hb1 : bl = 0) :
    Calls Try.prog 16 #[.slice A n c, .int .i64 at_, .int .i64 nn] w fun e w' => e = .returned (.int .i64 at_) ∧ Below w.heap.size w w' := by
  have HL := Lib.hid hlen
  have hn0 : ¬ (0 : Int) < nn := by omega
  have hb0 : ¬ (0 : Int) < bl := by omega
  clear hlen
  go_enter Try.func16, Try.ntmps16
  go_wp2_with (first
    | (go_at_call 18; (with_reducible refine HS.out.mono ?_); rintro e w1 ⟨A1, c1, he, hr, hb⟩; rw [← HL.out] at he; subst he; have HR1 := Lib.hid hr; have HB1 := Lib.hid hb; clear hr hb HS)
    | (go_at_call 31; (with_reducible refine (HB.out w1 A1 c1 HR1.out).mono ?_); rintro e w2 ⟨rfl, q, hq⟩; have HB2 := Lib.hid (bel0 HB1.out (hq ▸ belN' w1 q)); clear hq HB HR1 HB1))
  go_ret
  exact ⟨rfl, HB2.out⟩

end Go.Proofs.Ytfgnlohnalgnpaa
