/- The walks of parameter's last ways; of taker. -/
import Derived.Test.YtmmkcfjncpcabaaDoorMf
namespace Go.Proofs.YtmmkcfjncpcabaaDoor
open Go.RowKit

set_option maxRecDepth 100000 in
set_option maxHeartbeats 4000000 in
theorem par_prefix (D : Nat) (a : PV) (x : Int) (hx : ¬ x < 60) (Ai Ah : Option Addr) (ci ch : Nat) (w : World) (h : PB w D a) (hw : a.wrong = .bool false) (hi : a.inter = .slice Ai 0 ci) (hh : a.head = .slice Ah 0 ch) (hp : a.pre = .int .u8 0) :
    Calls Tryd.prog 60 #[.pointer (some ⟨D, 0, none⟩), .int .u8 x] w (MPost D { a with pre := .int .u8 x } w) := by
  have HF : Hid (MPost D { a with pre := .int .u8 x } w (.returned (.tuple #[])) (w.setCell ⟨D, 0, none⟩ (.int .u8 x))) := Lib.hid ⟨rfl, h.set 0 _ rfl, keptD (kept0 w D) 0 _⟩
  have c0 : w.cell? ⟨D, 0, none⟩ = some a.pre := h.cell 0
  have c1 : w.cell? ⟨D, 1, none⟩ = some a.head := h.cell 1
  have c2 : w.cell? ⟨D, 2, none⟩ = some a.inter := h.cell 2
  have c3 : w.cell? ⟨D, 3, none⟩ = some a.wrong := h.cell 3
  rw [hw] at c3
  rw [hi] at c2
  rw [hh] at c1
  rw [hp] at c0
  have f0 := h.free 0
  have e1 : decide (x < 48) = false := decide_eq_false (by omega)
  have e2 : decide (x < 60) = false := decide_eq_false (by omega)
  have e3 : decide (x ≥ 60) = true := decide_eq_true (by omega)
  have e4 : (60 : Int) ≤ x := by omega
  clear h hw hi hh hp hx
  go_enter Tryd.func60, Tryd.ntmps60
  go_wp2
  go_end0
  exact HF.out
/-- Neither a number nor a prefix can be taken any more. -/
theorem par_spoil (D : Nat) (a : PV) (x : Int) (hx : ¬ x < 48) (Ai Ah : Option Addr) (ci nh ch : Nat) (pr : Int) (w : World) (h : PB w D a) (hw : a.wrong = .bool false) (hi : a.inter = .slice Ai 0 ci) (hh : a.head = .slice Ah nh ch) (hp : a.pre = .int .u8 pr) (hc : (x < 60 ∧ 256 ≤ nh) ∨ (60 ≤ x ∧ (pr ≠ 0 ∨ 0 < nh))) :
    Calls Tryd.prog 60 #[.pointer (some ⟨D, 0, none⟩), .int .u8 x] w (MPost D (a.fresh true) w) := by
  have HS := Lib.hid (spoil_any D a w h)
  have HF : Hid (∀ w', PB w' D (a.fresh true) ∧ w.grownBy w' (some D) → MPost D (a.fresh true) w (.returned (.tuple #[])) w') := Lib.hid fun w' h => ⟨rfl, h⟩
  have c0 : w.cell? ⟨D, 0, none⟩ = some a.pre := h.cell 0
  have c1 : w.cell? ⟨D, 1, none⟩ = some a.head := h.cell 1
  have c2 : w.cell? ⟨D, 2, none⟩ = some a.inter := h.cell 2
  have c3 : w.cell? ⟨D, 3, none⟩ = some a.wrong := h.cell 3
  rw [hw] at c3
  rw [hi] at c2
  rw [hh] at c1
  rw [hp] at c0
  have e1 : decide (x < 48) = false := decide_eq_false hx
  unfold MPost at HS
  clear h hw hi hh hp hx
  rcases hc with ⟨h1, h2⟩ | ⟨h1, h2⟩
  · have e2 : decide (x < 60) = true := decide_eq_true h1
    have e3 : decide (x ≥ 60) = false := decide_eq_false (by omega)
    have e4 : decide (60 ≤ x) = false := decide_eq_false (by omega)
    have e5 : decide ((nh : Int) < 256) = false := decide_eq_false (by omega)
    have e6 : decide (nh < 256) = false := decide_eq_false (by omega)
    go_enter Tryd.func60, Tryd.ntmps60
    go_wp2_with (go_at_call 70; (with_reducible refine HS.out.mono ?_); rintro e w2 ⟨rfl, hp2⟩; have HP2 := Lib.hid hp2; clear hp2)
    go_end0
    exact HF.out _ HP2.out
  · have e2 : decide (x < 60) = false := decide_eq_false (by omega)
    have e3 : decide (x ≥ 60) = true := decide_eq_true (by omega)
    by_cases hpr : pr = 0
    · subst hpr
      have hn : 0 < nh := by omega
      have e5 : ((nh : Int) == 0) = false := by simp; omega
      clear h2 hn
      go_enter Tryd.func60, Tryd.ntmps60
      go_wp2_with (go_at_call 70; (with_reducible refine HS.out.mono ?_); rintro e w2 ⟨rfl, hp2⟩; have HP2 := Lib.hid hp2; clear hp2)
      go_end0
      exact HF.out _ HP2.out
    · have e5 : (pr == 0) = false := by simpa using hpr
      clear h2 hpr
      go_enter Tryd.func60, Tryd.ntmps60
      go_wp2_with (go_at_call 70; (with_reducible refine HS.out.mono ?_); rintro e w2 ⟨rfl, hp2⟩; have HP2 := Lib.hid hp2; clear hp2)
      go_end0
      exact HF.out _ HP2.out

/-- What takes a byte where the parser is. -/
def takerF (st : Int) : Nat := if st = 1 then 45 else if st = 2 then 46 else if st = 3 then 47 else if st = 4 then 48 else if st = 5 then 49 else 50
set_option maxRecDepth 100000 in
set_option maxHeartbeats 4000000 in
theorem taker_any (D : Nat) (a : PV) (st : Nat) (hst : st ≤ 5) (w : World) (h : PB w D a) (hs : a.state = .int .i64 st) :
    Calls Tryd.prog 36 #[.pointer (some ⟨D, 0, none⟩)] w fun e w' => e = .returned (.func (.func (takerF st)) #[.pointer (some ⟨D, 0, none⟩)] #[]) ∧ w = w' := by
  have c7 : w.cell? ⟨D, 7, none⟩ = some a.state := h.cell 7
  rw [hs] at c7
  clear h hs
  rcases (by omega : st = 0 ∨ st = 1 ∨ st = 2 ∨ st = 3 ∨ st = 4 ∨ st = 5) with rfl | rfl | rfl | rfl | rfl | rfl
  all_goals
    go_enter Tryd.func36, Tryd.ntmps36
    go_wp2
    go_ret
    exact ⟨rfl, rfl⟩

end Go.Proofs.YtmmkcfjncpcabaaDoor
