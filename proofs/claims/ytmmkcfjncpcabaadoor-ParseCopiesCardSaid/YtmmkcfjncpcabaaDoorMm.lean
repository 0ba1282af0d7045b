/- takeRest, and take's ways for a cancel and an escape: handed on. -/
import Derived.Test.YtmmkcfjncpcabaaDoorMl
namespace Go.Proofs.YtmmkcfjncpcabaaDoor
open Go.RowKit

set_option maxRecDepth 100000 in
set_option maxHeartbeats 2000000 in
theorem rest_via (D : Nat) (x : Int) (w : World) (R : Value → World → Prop) (Q : World → Prop)
    (HS : Calls Tryd.prog 63 #[.pointer (some ⟨D, 9, none⟩), .int .u8 x] w (fun e w' => ∃ v, e = .returned v ∧ R v w'))
    (HQ : ∀ v w', R v w' → Calls Tryd.prog 31 #[.pointer (some ⟨D, 0, none⟩), v] w' (fun e w'' => e = .returned (.tuple #[]) ∧ Q w'')) :
    Calls Tryd.prog 50 #[.pointer (some ⟨D, 0, none⟩), .int .u8 x] w (fun e w' => e = .returned (.tuple #[]) ∧ Q w') := by
  have HS2 := Lib.hid HS
  have HQ2 := Lib.hid HQ
  clear HS HQ
  go_enter Tryd.func50, Tryd.ntmps50
  go_wp2_with (first
    | (go_at_call 63; (with_reducible refine HS2.out.mono ?_); rintro e w2 ⟨v, rfl, hp⟩; have HP1 := Lib.hid hp; clear hp)
    | (go_at_call 31; (with_reducible refine (HQ2.out _ _ HP1.out).mono ?_); rintro e w3 ⟨rfl, hp⟩; have HP2 := Lib.hid hp; clear hp))
  go_end0
  exact ⟨rfl, HP2.out⟩

set_option maxRecDepth 100000 in
set_option maxHeartbeats 2000000 in
theorem take_cancel (D : Nat) (w : World) (R : Value → World → Prop) (R1 R2 Q : World → Prop)
    (HS : Calls Tryd.prog 32 #[.pointer (some ⟨D, 9, none⟩)] w (fun e w' => ∃ v, e = .returned v ∧ R v w'))
    (HC : ∀ v w', R v w' → Calls Tryd.prog 31 #[.pointer (some ⟨D, 0, none⟩), v] w' (fun e w'' => e = .returned (.tuple #[]) ∧ R1 w''))
    (HD : ∀ w', R1 w' → Calls Tryd.prog 33 #[.pointer (some ⟨D, 0, none⟩), .int .i64 0] w' (fun e w'' => e = .returned (.tuple #[]) ∧ R2 w''))
    (HE : ∀ w', R2 w' → Calls Tryd.prog 34 #[.pointer (some ⟨D, 0, none⟩), .int .u8 24] w' (fun e w'' => e = .returned (.tuple #[]) ∧ Q w'')) :
    Calls Tryd.prog 22 #[.pointer (some ⟨D, 0, none⟩), .int .u8 24] w (fun e w' => e = .returned (.tuple #[]) ∧ Q w') := by
  have HS2 := Lib.hid HS
  have HC2 := Lib.hid HC
  have HD2 := Lib.hid HD
  have HE2 := Lib.hid HE
  clear HS HC HD HE
  go_enter Tryd.func22, Tryd.ntmps22
  go_wp2_with (first
    | (go_at_call 32; (with_reducible refine HS2.out.mono ?_); rintro e w2 ⟨v, rfl, hp⟩; have HP1 := Lib.hid hp; clear hp)
    | (go_at_call 31; (with_reducible refine (HC2.out _ _ HP1.out).mono ?_); rintro e w3 ⟨rfl, hp⟩; have HP2 := Lib.hid hp; clear hp)
    | (go_at_call 33; (with_reducible refine (HD2.out _ HP2.out).mono ?_); rintro e w4 ⟨rfl, hp⟩; have HP3 := Lib.hid hp; clear hp)
    | (go_at_call 34; (with_reducible refine (HE2.out _ HP3.out).mono ?_); rintro e w5 ⟨rfl, hp⟩; have HP4 := Lib.hid hp; clear hp))
  go_end0
  exact ⟨rfl, HP4.out⟩

set_option maxRecDepth 100000 in
set_option maxHeartbeats 2000000 in
theorem take_substitute (D : Nat) (w : World) (R : Value → World → Prop) (R1 R2 Q : World → Prop)
    (HS : Calls Tryd.prog 32 #[.pointer (some ⟨D, 9, none⟩)] w (fun e w' => ∃ v, e = .returned v ∧ R v w'))
    (HC : ∀ v w', R v w' → Calls Tryd.prog 31 #[.pointer (some ⟨D, 0, none⟩), v] w' (fun e w'' => e = .returned (.tuple #[]) ∧ R1 w''))
    (HD : ∀ w', R1 w' → Calls Tryd.prog 33 #[.pointer (some ⟨D, 0, none⟩), .int .i64 0] w' (fun e w'' => e = .returned (.tuple #[]) ∧ R2 w''))
    (HE : ∀ w', R2 w' → Calls Tryd.prog 34 #[.pointer (some ⟨D, 0, none⟩), .int .u8 26] w' (fun e w'' => e = .returned (.tuple #[]) ∧ Q w'')) :
    Calls Tryd.prog 22 #[.pointer (some ⟨D, 0, none⟩), .int .u8 26] w (fun e w' => e = .returned (.tuple #[]) ∧ Q w') := by
  have HS2 := Lib.hid HS
  have HC2 := Lib.hid HC
  have HD2 := Lib.hid HD
  have HE2 := Lib.hid HE
  clear HS HC HD HE
  go_enter Tryd.func22, Tryd.ntmps22
  go_wp2_with (first
    | (go_at_call 32; (with_reducible refine HS2.out.mono ?_); rintro e w2 ⟨v, rfl, hp⟩; have HP1 := Lib.hid hp; clear hp)
    | (go_at_call 31; (with_reducible refine (HC2.out _ _ HP1.out).mono ?_); rintro e w3 ⟨rfl, hp⟩; have HP2 := Lib.hid hp; clear hp)
    | (go_at_call 33; (with_reducible refine (HD2.out _ HP2.out).mono ?_); rintro e w4 ⟨rfl, hp⟩; have HP3 := Lib.hid hp; clear hp)
    | (go_at_call 34; (with_reducible refine (HE2.out _ HP3.out).mono ?_); rintro e w5 ⟨rfl, hp⟩; have HP4 := Lib.hid hp; clear hp))
  go_end0
  exact ⟨rfl, HP4.out⟩

set_option maxRecDepth 100000 in
set_option maxHeartbeats 2000000 in
theorem take_escape (D : Nat) (w : World) (R : Value → World → Prop) (R1 R2 Q : World → Prop)
    (HS : Calls Tryd.prog 32 #[.pointer (some ⟨D, 9, none⟩)] w (fun e w' => ∃ v, e = .returned v ∧ R v w'))
    (HC : ∀ v w', R v w' → Calls Tryd.prog 31 #[.pointer (some ⟨D, 0, none⟩), v] w' (fun e w'' => e = .returned (.tuple #[]) ∧ R1 w''))
    (HD : ∀ w', R1 w' → Calls Tryd.prog 35 #[.pointer (some ⟨D, 0, none⟩)] w' (fun e w'' => e = .returned (.tuple #[]) ∧ R2 w''))
    (HE : ∀ w', R2 w' → Calls Tryd.prog 33 #[.pointer (some ⟨D, 0, none⟩), .int .i64 1] w' (fun e w'' => e = .returned (.tuple #[]) ∧ Q w'')) :
    Calls Tryd.prog 22 #[.pointer (some ⟨D, 0, none⟩), .int .u8 27] w (fun e w' => e = .returned (.tuple #[]) ∧ Q w') := by
  have HS2 := Lib.hid HS
  have HC2 := Lib.hid HC
  have HD2 := Lib.hid HD
  have HE2 := Lib.hid HE
  clear HS HC HD HE
  go_enter Tryd.func22, Tryd.ntmps22
  go_wp2_with (first
    | (go_at_call 32; (with_reducible refine HS2.out.mono ?_); rintro e w2 ⟨v, rfl, hp⟩; have HP1 := Lib.hid hp; clear hp)
    | (go_at_call 31; (with_reducible refine (HC2.out _ _ HP1.out).mono ?_); rintro e w3 ⟨rfl, hp⟩; have HP2 := Lib.hid hp; clear hp)
    | (go_at_call 35; (with_reducible refine (HD2.out _ HP2.out).mono ?_); rintro e w4 ⟨rfl, hp⟩; have HP3 := Lib.hid hp; clear hp)
    | (go_at_call 33; (with_reducible refine (HE2.out _ HP3.out).mono ?_); rintro e w5 ⟨rfl, hp⟩; have HP4 := Lib.hid hp; clear hp))
  go_end0
  exact ⟨rfl, HP4.out⟩

end Go.Proofs.YtmmkcfjncpcabaaDoor
