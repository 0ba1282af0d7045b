/- The ways on which what takes a byte hands it on, or leaves it. Written by mkmh.py. -/
import Derived.Test.YtmmkcfjncpcabaaDoorMg
namespace Go.Proofs.YtmmkcfjncpcabaaDoor
open Go.RowKit

set_option maxRecDepth 100000 in
set_option maxHeartbeats 4000000 in
theorem esc_exec (D : Nat) (x : Int) (hhi : x < 32)  (w : World)  (Q : Ending → World → Prop) (HC : Calls Tryd.prog 34 #[.pointer (some ⟨D, 0, none⟩), .int .u8 x] w Q) (hq : ∀ e w', Q e w' → e = .returned (.tuple #[])) :
    Calls Tryd.prog 45 #[.pointer (some ⟨D, 0, none⟩), .int .u8 x] w Q := by
  have HC2 := Lib.hid HC
  have HQ := Lib.hid hq
  clear HC hq
  have l0 : decide (x < 32) = true := decide_eq_true (by omega)
  have lp0 : x < 32 := by omega
  clear hhi
  go_enter Tryd.func45, Tryd.ntmps45
  go_wp2_with (go_at_call 34; (with_reducible refine HC2.out.mono ?_); intro e w2 hp; obtain rfl := HQ.out _ _ hp; have HP2 := Lib.hid hp; clear hp)
  go_end0
  exact HP2.out

set_option maxRecDepth 100000 in
set_option maxHeartbeats 4000000 in
theorem esc_between (D : Nat) (x : Int) (hlo : 32 ≤ x) (hhi : x < 48)  (w : World)  (Q : Ending → World → Prop) (HC : Calls Tryd.prog 58 #[.pointer (some ⟨D, 0, none⟩), .int .u8 x] w Q) (hq : ∀ e w', Q e w' → e = .returned (.tuple #[])) :
    Calls Tryd.prog 45 #[.pointer (some ⟨D, 0, none⟩), .int .u8 x] w Q := by
  have HC2 := Lib.hid HC
  have HQ := Lib.hid hq
  clear HC hq
  have l0 : decide (x < 32) = false := decide_eq_false (by omega)
  have lp0 : 32 ≤ x := by omega
  have l1 : decide (x < 48) = true := decide_eq_true (by omega)
  have lp1 : x < 48 := by omega
  clear hlo hhi
  go_enter Tryd.func45, Tryd.ntmps45
  go_wp2_with (go_at_call 58; (with_reducible refine HC2.out.mono ?_); intro e w2 hp; obtain rfl := HQ.out _ _ hp; have HP2 := Lib.hid hp; clear hp)
  go_end0
  exact HP2.out

set_option maxRecDepth 100000 in
set_option maxHeartbeats 4000000 in
theorem esc_end (D : Nat) (x : Int) (hlo : 48 ≤ x) (hhi : x < 127)  (w : World)  (Q : Ending → World → Prop) (HC : Calls Tryd.prog 42 #[.pointer (some ⟨D, 0, none⟩), .int .u8 x] w Q) (hq : ∀ e w', Q e w' → e = .returned (.tuple #[])) :
    Calls Tryd.prog 45 #[.pointer (some ⟨D, 0, none⟩), .int .u8 x] w Q := by
  have HC2 := Lib.hid HC
  have HQ := Lib.hid hq
  clear HC hq
  have l0 : decide (x < 32) = false := decide_eq_false (by omega)
  have lp0 : 32 ≤ x := by omega
  have l1 : decide (x < 48) = false := decide_eq_false (by omega)
  have lp1 : 48 ≤ x := by omega
  have l2 : decide (x < 127) = true := decide_eq_true (by omega)
  have lp2 : x < 127 := by omega
  clear hlo hhi
  go_enter Tryd.func45, Tryd.ntmps45
  go_wp2_with (go_at_call 42; (with_reducible refine HC2.out.mono ?_); intro e w2 hp; obtain rfl := HQ.out _ _ hp; have HP2 := Lib.hid hp; clear hp)
  go_end0
  exact HP2.out

set_option maxRecDepth 100000 in
set_option maxHeartbeats 4000000 in
theorem esc_break (D : Nat) (x : Int) (hlo : 128 ≤ x)  (w : World)  (Q : Ending → World → Prop) (HC : Calls Tryd.prog 59 #[.pointer (some ⟨D, 0, none⟩), .int .u8 x] w Q) (hq : ∀ e w', Q e w' → e = .returned (.tuple #[])) :
    Calls Tryd.prog 45 #[.pointer (some ⟨D, 0, none⟩), .int .u8 x] w Q := by
  have HC2 := Lib.hid HC
  have HQ := Lib.hid hq
  clear HC hq
  have l0 : decide (x < 32) = false := decide_eq_false (by omega)
  have lp0 : 32 ≤ x := by omega
  have l1 : decide (x < 48) = false := decide_eq_false (by omega)
  have lp1 : 48 ≤ x := by omega
  have l2 : decide (x < 127) = false := decide_eq_false (by omega)
  have lp2 : 127 ≤ x := by omega
  have g0 : decide (x > 127) = true := decide_eq_true (by omega)
  have gp0 : 127 < x := by omega
  clear hlo
  go_enter Tryd.func45, Tryd.ntmps45
  go_wp2_with (go_at_call 59; (with_reducible refine HC2.out.mono ?_); intro e w2 hp; obtain rfl := HQ.out _ _ hp; have HP2 := Lib.hid hp; clear hp)
  go_end0
  exact HP2.out

set_option maxRecDepth 100000 in
set_option maxHeartbeats 4000000 in
theorem esc_none (D : Nat) (x : Int) (hlo : 127 ≤ x) (hhi : x < 128)  (w : World)  :
    Calls Tryd.prog 45 #[.pointer (some ⟨D, 0, none⟩), .int .u8 x] w (fun e w' => e = .returned (.tuple #[]) ∧ w = w') := by
  have l0 : decide (x < 32) = false := decide_eq_false (by omega)
  have lp0 : 32 ≤ x := by omega
  have l1 : decide (x < 48) = false := decide_eq_false (by omega)
  have lp1 : 48 ≤ x := by omega
  have l2 : decide (x < 127) = false := decide_eq_false (by omega)
  have lp2 : 127 ≤ x := by omega
  have g0 : decide (x > 127) = false := decide_eq_false (by omega)
  have gp0 : ¬ 127 < x := by omega
  clear hlo hhi
  go_enter Tryd.func45, Tryd.ntmps45
  go_wp2
  go_end0
  exact ⟨rfl, rfl⟩

set_option maxRecDepth 100000 in
set_option maxHeartbeats 4000000 in
theorem seq_exec (D : Nat) (x : Int) (hhi : x < 32)  (w : World)  (Q : Ending → World → Prop) (HC : Calls Tryd.prog 34 #[.pointer (some ⟨D, 0, none⟩), .int .u8 x] w Q) (hq : ∀ e w', Q e w' → e = .returned (.tuple #[])) :
    Calls Tryd.prog 46 #[.pointer (some ⟨D, 0, none⟩), .int .u8 x] w Q := by
  have HC2 := Lib.hid HC
  have HQ := Lib.hid hq
  clear HC hq
  have l0 : decide (x < 32) = true := decide_eq_true (by omega)
  have lp0 : x < 32 := by omega
  clear hhi
  go_enter Tryd.func46, Tryd.ntmps46
  go_wp2_with (go_at_call 34; (with_reducible refine HC2.out.mono ?_); intro e w2 hp; obtain rfl := HQ.out _ _ hp; have HP2 := Lib.hid hp; clear hp)
  go_end0
  exact HP2.out

set_option maxRecDepth 100000 in
set_option maxHeartbeats 4000000 in
theorem seq_param (D : Nat) (x : Int) (hlo : 32 ≤ x) (hhi : x < 64)  (w : World)  (Q : Ending → World → Prop) (HC : Calls Tryd.prog 60 #[.pointer (some ⟨D, 0, none⟩), .int .u8 x] w Q) (hq : ∀ e w', Q e w' → e = .returned (.tuple #[])) :
    Calls Tryd.prog 46 #[.pointer (some ⟨D, 0, none⟩), .int .u8 x] w Q := by
  have HC2 := Lib.hid HC
  have HQ := Lib.hid hq
  clear HC hq
  have l0 : decide (x < 32) = false := decide_eq_false (by omega)
  have lp0 : 32 ≤ x := by omega
  have l1 : decide (x < 64) = true := decide_eq_true (by omega)
  have lp1 : x < 64 := by omega
  clear hlo hhi
  go_enter Tryd.func46, Tryd.ntmps46
  go_wp2_with (go_at_call 60; (with_reducible refine HC2.out.mono ?_); intro e w2 hp; obtain rfl := HQ.out _ _ hp; have HP2 := Lib.hid hp; clear hp)
  go_end0
  exact HP2.out

set_option maxRecDepth 100000 in
set_option maxHeartbeats 4000000 in
theorem seq_end (D : Nat) (x : Int) (hlo : 64 ≤ x) (hhi : x < 127)  (w : World)  (Q : Ending → World → Prop) (HC : Calls Tryd.prog 61 #[.pointer (some ⟨D, 0, none⟩), .int .u8 x] w Q) (hq : ∀ e w', Q e w' → e = .returned (.tuple #[])) :
    Calls Tryd.prog 46 #[.pointer (some ⟨D, 0, none⟩), .int .u8 x] w Q := by
  have HC2 := Lib.hid HC
  have HQ := Lib.hid hq
  clear HC hq
  have l0 : decide (x < 32) = false := decide_eq_false (by omega)
  have lp0 : 32 ≤ x := by omega
  have l1 : decide (x < 64) = false := decide_eq_false (by omega)
  have lp1 : 64 ≤ x := by omega
  have l2 : decide (x < 127) = true := decide_eq_true (by omega)
  have lp2 : x < 127 := by omega
  clear hlo hhi
  go_enter Tryd.func46, Tryd.ntmps46
  go_wp2_with (go_at_call 61; (with_reducible refine HC2.out.mono ?_); intro e w2 hp; obtain rfl := HQ.out _ _ hp; have HP2 := Lib.hid hp; clear hp)
  go_end0
  exact HP2.out

set_option maxRecDepth 100000 in
set_option maxHeartbeats 4000000 in
theorem seq_break (D : Nat) (x : Int) (hlo : 128 ≤ x)  (w : World)  (Q : Ending → World → Prop) (HC : Calls Tryd.prog 59 #[.pointer (some ⟨D, 0, none⟩), .int .u8 x] w Q) (hq : ∀ e w', Q e w' → e = .returned (.tuple #[])) :
    Calls Tryd.prog 46 #[.pointer (some ⟨D, 0, none⟩), .int .u8 x] w Q := by
  have HC2 := Lib.hid HC
  have HQ := Lib.hid hq
  clear HC hq
  have l0 : decide (x < 32) = false := decide_eq_false (by omega)
  have lp0 : 32 ≤ x := by omega
  have l1 : decide (x < 64) = false := decide_eq_false (by omega)
  have lp1 : 64 ≤ x := by omega
  have l2 : decide (x < 127) = false := decide_eq_false (by omega)
  have lp2 : 127 ≤ x := by omega
  have g0 : decide (x > 127) = true := decide_eq_true (by omega)
  have gp0 : 127 < x := by omega
  clear hlo
  go_enter Tryd.func46, Tryd.ntmps46
  go_wp2_with (go_at_call 59; (with_reducible refine HC2.out.mono ?_); intro e w2 hp; obtain rfl := HQ.out _ _ hp; have HP2 := Lib.hid hp; clear hp)
  go_end0
  exact HP2.out

set_option maxRecDepth 100000 in
set_option maxHeartbeats 4000000 in
theorem seq_none (D : Nat) (x : Int) (hlo : 127 ≤ x) (hhi : x < 128)  (w : World)  :
    Calls Tryd.prog 46 #[.pointer (some ⟨D, 0, none⟩), .int .u8 x] w (fun e w' => e = .returned (.tuple #[]) ∧ w = w') := by
  have l0 : decide (x < 32) = false := decide_eq_false (by omega)
  have lp0 : 32 ≤ x := by omega
  have l1 : decide (x < 64) = false := decide_eq_false (by omega)
  have lp1 : 64 ≤ x := by omega
  have l2 : decide (x < 127) = false := decide_eq_false (by omega)
  have lp2 : 127 ≤ x := by omega
  have g0 : decide (x > 127) = false := decide_eq_false (by omega)
  have gp0 : ¬ 127 < x := by omega
  clear hlo hhi
  go_enter Tryd.func46, Tryd.ntmps46
  go_wp2
  go_end0
  exact ⟨rfl, rfl⟩

set_option maxRecDepth 100000 in
set_option maxHeartbeats 4000000 in
theorem dev_pay (D : Nat) (x : Int)   (w : World) (a : PV) (l : Int) (h : PB w D a) (hl : a.last = .int .u8 l) (hl0 : ¬ l = 0) (Q : Ending → World → Prop) (HC : Calls Tryd.prog 62 #[.pointer (some ⟨D, 0, none⟩), .int .u8 x] w Q) (hq : ∀ e w', Q e w' → e = .returned (.tuple #[])) :
    Calls Tryd.prog 47 #[.pointer (some ⟨D, 0, none⟩), .int .u8 x] w Q := by
  have HC2 := Lib.hid HC
  have HQ := Lib.hid hq
  clear HC hq
  have c4 : w.cell? ⟨D, 4, none⟩ = some a.last := h.cell 4
  rw [hl] at c4
  have e0 : (l == 0) = false := by simpa using hl0
  clear h hl hl0
  go_enter Tryd.func47, Tryd.ntmps47
  go_wp2_with (go_at_call 62; (with_reducible refine HC2.out.mono ?_); intro e w2 hp; obtain rfl := HQ.out _ _ hp; have HP2 := Lib.hid hp; clear hp)
  go_end0
  exact HP2.out

set_option maxRecDepth 100000 in
set_option maxHeartbeats 4000000 in
theorem dev_low (D : Nat) (x : Int) (hhi : x < 32)  (w : World) (a : PV) (h : PB w D a) (hl : a.last = .int .u8 0) :
    Calls Tryd.prog 47 #[.pointer (some ⟨D, 0, none⟩), .int .u8 x] w (fun e w' => e = .returned (.tuple #[]) ∧ w = w') := by
  have l0 : decide (x < 32) = true := decide_eq_true (by omega)
  have lp0 : x < 32 := by omega
  have c4 : w.cell? ⟨D, 4, none⟩ = some a.last := h.cell 4
  rw [hl] at c4
  clear h hl
  clear hhi
  go_enter Tryd.func47, Tryd.ntmps47
  go_wp2
  go_end0
  exact ⟨rfl, rfl⟩

set_option maxRecDepth 100000 in
set_option maxHeartbeats 4000000 in
theorem dev_del (D : Nat) (x : Int) (hlo : 127 ≤ x) (hhi : x < 128)  (w : World) (a : PV) (h : PB w D a) (hl : a.last = .int .u8 0) :
    Calls Tryd.prog 47 #[.pointer (some ⟨D, 0, none⟩), .int .u8 x] w (fun e w' => e = .returned (.tuple #[]) ∧ w = w') := by
  have l0 : decide (x < 32) = false := decide_eq_false (by omega)
  have lp0 : 32 ≤ x := by omega
  have l1 : decide (x < 127) = false := decide_eq_false (by omega)
  have lp1 : 127 ≤ x := by omega
  have c4 : w.cell? ⟨D, 4, none⟩ = some a.last := h.cell 4
  rw [hl] at c4
  clear h hl
  have n127 : (x == 127) = true := by simp; omega
  clear hlo hhi
  go_enter Tryd.func47, Tryd.ntmps47
  go_wp2
  go_end0
  exact ⟨rfl, rfl⟩

set_option maxRecDepth 100000 in
set_option maxHeartbeats 4000000 in
theorem dev_param (D : Nat) (x : Int) (hlo : 32 ≤ x) (hhi : x < 64)  (w : World) (a : PV) (h : PB w D a) (hl : a.last = .int .u8 0) (Q : Ending → World → Prop) (HC : Calls Tryd.prog 60 #[.pointer (some ⟨D, 0, none⟩), .int .u8 x] w Q) (hq : ∀ e w', Q e w' → e = .returned (.tuple #[])) :
    Calls Tryd.prog 47 #[.pointer (some ⟨D, 0, none⟩), .int .u8 x] w Q := by
  have HC2 := Lib.hid HC
  have HQ := Lib.hid hq
  clear HC hq
  have l0 : decide (x < 32) = false := decide_eq_false (by omega)
  have lp0 : 32 ≤ x := by omega
  have l1 : decide (x < 64) = true := decide_eq_true (by omega)
  have lp1 : x < 64 := by omega
  have c4 : w.cell? ⟨D, 4, none⟩ = some a.last := h.cell 4
  rw [hl] at c4
  clear h hl
  have n127 : (x == 127) = false := by simp; omega
  clear hlo hhi
  go_enter Tryd.func47, Tryd.ntmps47
  go_wp2_with (go_at_call 60; (with_reducible refine HC2.out.mono ?_); intro e w2 hp; obtain rfl := HQ.out _ _ hp; have HP2 := Lib.hid hp; clear hp)
  go_end0
  exact HP2.out

set_option maxRecDepth 100000 in
set_option maxHeartbeats 4000000 in
theorem dev_break (D : Nat) (x : Int) (hlo : 128 ≤ x)  (w : World) (a : PV) (h : PB w D a) (hl : a.last = .int .u8 0) (Q : Ending → World → Prop) (HC : Calls Tryd.prog 59 #[.pointer (some ⟨D, 0, none⟩), .int .u8 x] w Q) (hq : ∀ e w', Q e w' → e = .returned (.tuple #[])) :
    Calls Tryd.prog 47 #[.pointer (some ⟨D, 0, none⟩), .int .u8 x] w Q := by
  have HC2 := Lib.hid HC
  have HQ := Lib.hid hq
  clear HC hq
  have l0 : decide (x < 32) = false := decide_eq_false (by omega)
  have lp0 : 32 ≤ x := by omega
  have l1 : decide (x < 64) = false := decide_eq_false (by omega)
  have lp1 : 64 ≤ x := by omega
  have l2 : decide (x < 127) = false := decide_eq_false (by omega)
  have lp2 : 127 ≤ x := by omega
  have c4 : w.cell? ⟨D, 4, none⟩ = some a.last := h.cell 4
  rw [hl] at c4
  clear h hl
  have n127 : (x == 127) = false := by simp; omega
  clear hlo
  go_enter Tryd.func47, Tryd.ntmps47
  go_wp2_with (go_at_call 59; (with_reducible refine HC2.out.mono ?_); intro e w2 hp; obtain rfl := HQ.out _ _ hp; have HP2 := Lib.hid hp; clear hp)
  go_end0
  exact HP2.out

set_option maxRecDepth 100000 in
set_option maxHeartbeats 4000000 in
theorem cmd_pay (D : Nat) (x : Int) (hlo : 32 ≤ x) (hx : ¬ x = 127) (w : World)  (Q : Ending → World → Prop) (HC : Calls Tryd.prog 62 #[.pointer (some ⟨D, 0, none⟩), .int .u8 x] w Q) (hq : ∀ e w', Q e w' → e = .returned (.tuple #[])) :
    Calls Tryd.prog 48 #[.pointer (some ⟨D, 0, none⟩), .int .u8 x] w Q := by
  have HC2 := Lib.hid HC
  have HQ := Lib.hid hq
  clear HC hq
  have l0 : decide (x < 32) = false := decide_eq_false (by omega)
  have lp0 : 32 ≤ x := by omega
  have n7 : (x == 7) = false := by simp; omega
  have n127 : (x == 127) = false := by simp; omega
  have ge : decide (x ≥ 32) = true := decide_eq_true (by omega)
  clear hx
  clear hlo
  go_enter Tryd.func48, Tryd.ntmps48
  go_wp2_with (go_at_call 62; (with_reducible refine HC2.out.mono ?_); intro e w2 hp; obtain rfl := HQ.out _ _ hp; have HP2 := Lib.hid hp; clear hp)
  go_end0
  exact HP2.out

set_option maxRecDepth 100000 in
set_option maxHeartbeats 4000000 in
theorem cmd_low (D : Nat) (x : Int) (hhi : x < 32) (hx : ¬ x = 7) (w : World)  :
    Calls Tryd.prog 48 #[.pointer (some ⟨D, 0, none⟩), .int .u8 x] w (fun e w' => e = .returned (.tuple #[]) ∧ w = w') := by
  have l0 : decide (x < 32) = true := decide_eq_true (by omega)
  have lp0 : x < 32 := by omega
  have n7 : (x == 7) = false := by simp; omega
  have ge : decide (x ≥ 32) = false := decide_eq_false (by omega)
  have gp : ¬ 32 ≤ x := by omega
  clear hx
  clear hhi
  go_enter Tryd.func48, Tryd.ntmps48
  go_wp2
  go_end0
  exact ⟨rfl, rfl⟩

set_option maxRecDepth 100000 in
set_option maxHeartbeats 4000000 in
theorem cmd_del (D : Nat) (x : Int) (hlo : 127 ≤ x) (hhi : x < 128)  (w : World)  :
    Calls Tryd.prog 48 #[.pointer (some ⟨D, 0, none⟩), .int .u8 x] w (fun e w' => e = .returned (.tuple #[]) ∧ w = w') := by
  have l0 : decide (x < 32) = false := decide_eq_false (by omega)
  have lp0 : 32 ≤ x := by omega
  have n7 : (x == 7) = false := by simp; omega
  have n127 : (x == 127) = true := by simp; omega
  have ge : decide (x ≥ 32) = true := decide_eq_true (by omega)
  clear hlo hhi
  go_enter Tryd.func48, Tryd.ntmps48
  go_wp2
  go_end0
  exact ⟨rfl, rfl⟩

set_option maxRecDepth 100000 in
set_option maxHeartbeats 4000000 in
theorem unmeant (D : Nat) (x : Int)   (w : World)  :
    Calls Tryd.prog 49 #[.pointer (some ⟨D, 0, none⟩), .int .u8 x] w (fun e w' => e = .returned (.tuple #[]) ∧ w = w') := by
  go_enter Tryd.func49, Tryd.ntmps49
  go_wp2
  go_end0
  exact ⟨rfl, rfl⟩

end Go.Proofs.YtmmkcfjncpcabaaDoor
