/- The walks of begins, breakOff, takeRest, endEscape's and endSequence's short ways, take's plain way. -/
import Derived.Test.YtmmkcfjncpcabaaDoorMh
namespace Go.Proofs.YtmmkcfjncpcabaaDoor
open Go.RowKit

def beginsZ (x : Int) : Int := if x = 91 then 2 else if x = 93 then 4 else if x = 80 then 3 else if x = 88 ∨ x = 94 ∨ x = 95 then 5 else 0
set_option maxRecDepth 100000 in
set_option maxHeartbeats 1000000 in
theorem begins_any (x : Int) (w : World) : Calls Tryd.prog 56 #[.int .u8 x] w fun e w' => e = .returned (.int .i64 (beginsZ x)) ∧ w = w' := by
  rcases (by omega : x = 91 ∨ x = 93 ∨ x = 80 ∨ x = 88 ∨ x = 94 ∨ x = 95 ∨ (x ≠ 91 ∧ x ≠ 93 ∧ x ≠ 80 ∧ x ≠ 88 ∧ x ≠ 94 ∧ x ≠ 95)) with rfl | rfl | rfl | rfl | rfl | rfl | ⟨n1, n2, n3, n4, n5, n6⟩
  all_goals first
    | (have m1 : (x == 91) = false := by simpa using n1
       have m2 : (x == 93) = false := by simpa using n2
       have m3 : (x == 80) = false := by simpa using n3
       have m4 : (x == 88) = false := by simpa using n4
       have m5 : (x == 94) = false := by simpa using n5
       have m6 : (x == 95) = false := by simpa using n6
       have hb : beginsZ x = 0 := by unfold beginsZ; simp [n1, n2, n3, n4, n5, n6]
       rw [hb]
       clear n1 n2 n3 n4 n5 n6 hb
       go_enter Tryd.func56, Tryd.ntmps56
       go_wp2
       go_ret
       exact ⟨rfl, rfl⟩)
    | (go_enter Tryd.func56, Tryd.ntmps56
       go_wp2
       go_ret
       exact ⟨rfl, rfl⟩)

/-- The parser at a state, with nothing collected. -/
def PV.at (a : PV) (st : Int) : PV := { a.fresh false with state := .int .i64 st }
def NPost (D : Nat) (b : PV) (w w' : World) : Prop := PB w' D b ∧ w.grownBy w' (some D)
set_option maxRecDepth 100000 in
set_option maxHeartbeats 1000000 in
theorem break_any (D : Nat) (a : PV) (x st0 : Int) (w : World) (h : PB w D a) (hst : a.state = .int .i64 st0) (Q : Ending → World → Prop) (HC : ∀ w', NPost D (a.at 0) w w' → Calls Tryd.prog 50 #[.pointer (some ⟨D, 0, none⟩), .int .u8 x] w' Q) (hq : ∀ e w', Q e w' → e = .returned (.tuple #[])) :
    Calls Tryd.prog 59 #[.pointer (some ⟨D, 0, none⟩), .int .u8 x] w Q := by
  have HE : Hid (Calls Tryd.prog 33 #[.pointer (some ⟨D, 0, none⟩), .int .i64 0] w (fun e w' => e = .returned (.tuple #[]) ∧ NPost D (a.at 0) w w')) := Lib.hid (enter_any D a 0 st0 w h hst)
  have HC2 := Lib.hid HC
  have HQ := Lib.hid hq
  clear h hst HC hq
  go_enter Tryd.func59, Tryd.ntmps59
  go_wp2_with (first
    | (go_at_call 33; (with_reducible refine HE.out.mono ?_); rintro e w2 ⟨rfl, hp⟩; have HP1 := Lib.hid hp; clear hp)
    | (go_at_call 50; (with_reducible refine (HC2.out _ HP1.out).mono ?_); intro e w3 hp; obtain rfl := HQ.out _ _ hp; have HP2 := Lib.hid hp; clear hp))
  go_end0
  exact HP2.out

set_option maxRecDepth 100000 in
set_option maxHeartbeats 1000000 in
theorem end_wrong (D : Nat) (a : PV) (x st0 : Int) (w : World) (h : PB w D a) (hst : a.state = .int .i64 st0) (hw : a.wrong = .bool true) :
    Calls Tryd.prog 42 #[.pointer (some ⟨D, 0, none⟩), .int .u8 x] w (fun e w' => e = .returned (.tuple #[]) ∧ NPost D (a.at 0) w w') := by
  have HE : Hid (Calls Tryd.prog 33 #[.pointer (some ⟨D, 0, none⟩), .int .i64 0] w (fun e w' => e = .returned (.tuple #[]) ∧ NPost D (a.at 0) w w')) := Lib.hid (enter_any D a 0 st0 w h hst)
  have c3 : w.cell? ⟨D, 3, none⟩ = some a.wrong := h.cell 3
  rw [hw] at c3
  clear h hst hw
  go_enter Tryd.func42, Tryd.ntmps42
  go_wp2_with (go_at_call 33; (with_reducible refine HE.out.mono ?_); rintro e w2 ⟨rfl, hp⟩; have HP1 := Lib.hid hp; clear hp)
  (try simp only [Exit.inBlock, Exit.then])
  refine bodyPost_ret (results_none rfl _ _ _) rfl ?_
  exact ⟨rfl, HP1.out⟩

set_option maxRecDepth 100000 in
set_option maxHeartbeats 1000000 in
theorem end_enter (D : Nat) (a : PV) (x st0 : Int) (c : Nat) (A : Option Addr) (w : World) (h : PB w D a) (hst : a.state = .int .i64 st0) (hw : a.wrong = .bool false) (hi : a.inter = .slice A 0 c) (hb : ¬ beginsZ x = 0) :
    Calls Tryd.prog 42 #[.pointer (some ⟨D, 0, none⟩), .int .u8 x] w (fun e w' => e = .returned (.tuple #[]) ∧ NPost D (a.at (beginsZ x)) w w') := by
  have HE : Hid (Calls Tryd.prog 33 #[.pointer (some ⟨D, 0, none⟩), .int .i64 (beginsZ x)] w (fun e w' => e = .returned (.tuple #[]) ∧ NPost D (a.at (beginsZ x)) w w')) := Lib.hid (enter_any D a (beginsZ x) st0 w h hst)
  have HB := Lib.hid (begins_any x w)
  have c3 : w.cell? ⟨D, 3, none⟩ = some a.wrong := h.cell 3
  rw [hw] at c3
  have c2 : w.cell? ⟨D, 2, none⟩ = some a.inter := h.cell 2
  rw [hi] at c2
  generalize beginsZ x = b at *
  have e0 : (b == 0) = false := by simpa using hb
  have e1 : (b != 0) = true := by simpa using hb
  clear h hst hw hi hb
  go_enter Tryd.func42, Tryd.ntmps42
  go_wp2_with (first
    | (go_at_call 56; (with_reducible refine HB.out.mono ?_); rintro e w2 ⟨rfl, rfl⟩)
    | (go_at_call 33; (with_reducible refine HE.out.mono ?_); rintro e w2 ⟨rfl, hp⟩; have HP1 := Lib.hid hp; clear hp))
  (try simp only [Exit.inBlock, Exit.then])
  refine bodyPost_ret (results_none rfl _ _ _) rfl ?_
  exact ⟨rfl, HP1.out⟩

set_option maxRecDepth 100000 in
set_option maxHeartbeats 1000000 in
theorem endseq_wrong (D : Nat) (a : PV) (x st0 : Int) (w : World) (h : PB w D a) (hst : a.state = .int .i64 st0) (hw : a.wrong = .bool true) :
    Calls Tryd.prog 61 #[.pointer (some ⟨D, 0, none⟩), .int .u8 x] w (fun e w' => e = .returned (.tuple #[]) ∧ NPost D (a.at 0) w w') := by
  have HE : Hid (Calls Tryd.prog 33 #[.pointer (some ⟨D, 0, none⟩), .int .i64 0] w (fun e w' => e = .returned (.tuple #[]) ∧ NPost D (a.at 0) w w')) := Lib.hid (enter_any D a 0 st0 w h hst)
  have c3 : w.cell? ⟨D, 3, none⟩ = some a.wrong := h.cell 3
  rw [hw] at c3
  clear h hst hw
  go_enter Tryd.func61, Tryd.ntmps61
  go_wp2_with (go_at_call 33; (with_reducible refine HE.out.mono ?_); rintro e w2 ⟨rfl, hp⟩; have HP1 := Lib.hid hp; clear hp)
  go_end0
  exact ⟨rfl, HP1.out⟩

end Go.Proofs.YtmmkcfjncpcabaaDoor
