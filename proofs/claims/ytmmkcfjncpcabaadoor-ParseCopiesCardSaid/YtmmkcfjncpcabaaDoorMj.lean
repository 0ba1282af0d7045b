/- The walks of endEscape's telling way, of takeCommand's bell, of take's plain ways. Written by mkmj.py. -/
import Derived.Test.YtmmkcfjncpcabaaDoorMi
import Derived.Laws.IdiomStrings
namespace Go.Proofs.YtmmkcfjncpcabaaDoor
open Go.RowKit

def bsB (l : List UInt8) : ByteArray := ⟨l.toArray⟩
set_option maxRecDepth 100000 in
theorem conv_own {w : World} {B n c : Nat} {A : Option Addr} {T : List UInt8} (h : w.ownsRow B 5 1 (.slice A n c) n (Lib.byteCells T)) (hn : n = T.length) :
    (Go.convert 22 9 (.slice A n c)).run Tryd.prog w = .ok (.string (bsB T)) w := by
  subst hn
  by_cases hz : T = []
  · subst hz
    rw [List.length_nil, run_convert_bytes_string w _ _ 5 A 0 c (by kernel_rfl) (by kernel_rfl) (by kernel_rfl)]
    cases A <;> rfl
  · obtain ⟨A', c', e, hA⟩ := own_form h
    injection e with e1 _ _
    subst e1
    obtain ⟨g, rfl⟩ := hA (List.length_pos_iff.2 hz)
    exact run_convert_bytes_back (P := Tryd.prog) w 22 9 5 ⟨g, 0, none⟩ c T (by kernel_rfl) (by kernel_rfl) (by kernel_rfl) (fun j hj => by
      have ea : (⟨g, 0, none⟩ : Addr).add j = ⟨g, j, none⟩ := by
        unfold Addr.add
        split <;> simp_all
      rw [ea, h.cellAt j (by omega), Lib.byteCells, List.getElem?_map, List.getElem?_eq_getElem hj]
      rfl)

/-- An event has been told, and the parser is at a state, with nothing collected. -/
def EPost (D : Nat) (a : PV) (n : Nat) (cs : List Value) (e : EVal) (st : Int) (w w' : World) : Prop :=
  ∃ v', PB w' D { a.at st with evs := v' } ∧ w'.ownsRow (D + 1) 41 8 v' (n + 1) (cs ++ e.cells) ∧ TK D a v' w w'
theorem tell_enter {D n : Nat} {a : PV} {cs : List Value} {e : EVal} {st : Int} {w w2 w3 : World} {v' : Value} (h2 : PB w2 D { a with evs := v' } ∧ w2.ownsRow (D + 1) 41 8 v' (n + 1) (cs ++ e.cells) ∧ TK D a v' w w2) (h3 : NPost D (PV.at { a with evs := v' } st) w2 w3) : EPost D a n cs e st w w3 := by
  obtain ⟨h, ho, hk⟩ := h2
  obtain ⟨h3, hg⟩ := h3
  have hlt := lt_of_block h
  exact ⟨v', h3, ho.kept hg (.inr (fun e => by have := (ho.lt D e).1; omega)), ⟨hg.os.trans hk.1.os, hg.tape.trans hk.1.tape, hg.output.trans hk.1.output, Nat.le_trans hk.1.size hg.size, fun i hi hS => (hg.block i (Nat.lt_of_lt_of_le hi hk.1.size) (fun e => hS (.inl (Option.some.inj e)))).trans (hk.1.block i hi hS)⟩, hk.2⟩

def escE (x : Int) (T : List UInt8) : EVal := ⟨2, 0, x, 0, .slice none 0 0, bsB T, ⟨#[]⟩, false⟩
set_option maxRecDepth 100000 in
set_option maxHeartbeats 2000000 in
theorem end_tell (D : Nat) (a : PV) (n : Nat) (cs : List Value) (T : List UInt8) (x st0 : Int) (w : World) (h : PB w D a) (hst : a.state = .int .i64 st0) (hw : a.wrong = .bool false) (hown : w.ownsRow (D + 1) 41 8 a.evs n cs) (hn : n ≤ 100000) (hi : w.ownsRow (D + 1) 5 1 a.inter T.length (Lib.byteCells T)) (hb : beginsZ x = 0 ∨ ¬ T = []) :
    Calls Tryd.prog 42 #[.pointer (some ⟨D, 0, none⟩), .int .u8 x] w (fun e w' => e = .returned (.tuple #[]) ∧ EPost D a n cs (escE x T) 0 w w') := by
  obtain ⟨A0, c0, hv0, _⟩ := own_form hi
  have hcv : (Go.convert 22 9 (.slice A0 T.length c0)).run Tryd.prog w = .ok (.string (bsB T)) w := conv_own (by rw [← hv0]; exact hi) rfl
  have HT : Hid (Calls Tryd.prog 43 #[.pointer (some ⟨D, 0, none⟩), .agg #[.int .i64 2, .int .i32 0, .int .u8 x, .int .u8 0, .slice none 0 0, .string (bsB T), .string ⟨#[]⟩, .bool false]] w (TPost D a n cs (escE x T) w)) := Lib.hid (tell_any D a n cs (escE x T) w h hown hn rfl)
  have HE : Hid (∀ w2 v', PB w2 D { a with evs := v' } ∧ w2.ownsRow (D + 1) 41 8 v' (n + 1) (cs ++ (escE x T).cells) ∧ TK D a v' w w2 → Calls Tryd.prog 33 #[.pointer (some ⟨D, 0, none⟩), .int .i64 0] w2 (fun e w' => e = .returned (.tuple #[]) ∧ EPost D a n cs (escE x T) 0 w w')) := Lib.hid fun w2 v' h2 => (enter_any D { a with evs := v' } 0 st0 w2 h2.1 hst).mono (fun e w3 h3 => ⟨h3.1, tell_enter h2 h3.2⟩)
  have HB := Lib.hid (begins_any x w)
  have c3 : w.cell? ⟨D, 3, none⟩ = some a.wrong := h.cell 3
  rw [hw] at c3
  have c2 : w.cell? ⟨D, 2, none⟩ = some a.inter := h.cell 2
  rw [hv0] at c2
  generalize bsB T = S at *
  generalize escE x T = E at *
  have hb2 : beginsZ x = 0 ∨ (¬ beginsZ x = 0 ∧ ¬ T.length = 0) := by
    rcases hb with hb | hb
    · exact .inl hb
    · by_cases h0 : beginsZ x = 0
      · exact .inl h0
      · exact .inr ⟨h0, fun e => hb (List.eq_nil_of_length_eq_zero e)⟩
  generalize beginsZ x = b at *
  generalize T.length = m at *
  clear h hst hw hown hn hi hb hv0
  rcases hb2 with rfl | ⟨h0, h1⟩
  · go_enter Tryd.func42, Tryd.ntmps42
    go_wp2_with (first
      | (go_at_call 56; (with_reducible refine HB.out.mono ?_); rintro e w2 ⟨rfl, rfl⟩)
      | (go_at_call 43; (with_reducible refine HT.out.mono ?_); rintro e w2 ⟨v2, rfl, hp⟩; have HP1 := Lib.hid hp; clear hp)
      | (go_at_call 33; (with_reducible refine (HE.out _ _ HP1.out).mono ?_); rintro e w3 ⟨rfl, hp⟩; have HP2 := Lib.hid hp; clear hp))
    go_end0
    exact ⟨rfl, HP2.out⟩
  · have e0 : (b == 0) = false := by simpa using h0
    have e1 : (b != 0) = true := by simpa using h0
    have e2 : ((m : Int) == 0) = false := by simp; omega
    clear h0 h1
    go_enter Tryd.func42, Tryd.ntmps42
    go_wp2_with (first
      | (go_at_call 56; (with_reducible refine HB.out.mono ?_); rintro e w2 ⟨rfl, rfl⟩)
      | (go_at_call 43; (with_reducible refine HT.out.mono ?_); rintro e w2 ⟨v2, rfl, hp⟩; have HP1 := Lib.hid hp; clear hp)
      | (go_at_call 33; (with_reducible refine (HE.out _ _ HP1.out).mono ?_); rintro e w3 ⟨rfl, hp⟩; have HP2 := Lib.hid hp; clear hp))
    go_end0
    exact ⟨rfl, HP2.out⟩

set_option maxRecDepth 100000 in
set_option maxHeartbeats 2000000 in
theorem cmd_bell (D : Nat) (w : World) (R Q : World → Prop) (HT : Calls Tryd.prog 35 #[.pointer (some ⟨D, 0, none⟩)] w (fun e w' => e = .returned (.tuple #[]) ∧ R w')) (HE : ∀ w', R w' → Calls Tryd.prog 33 #[.pointer (some ⟨D, 0, none⟩), .int .i64 0] w' (fun e w'' => e = .returned (.tuple #[]) ∧ Q w'')) :
    Calls Tryd.prog 48 #[.pointer (some ⟨D, 0, none⟩), .int .u8 7] w (fun e w' => e = .returned (.tuple #[]) ∧ Q w') := by
  have HT2 := Lib.hid HT
  have HE2 := Lib.hid HE
  clear HT HE
  go_enter Tryd.func48, Tryd.ntmps48
  go_wp2_with (first
    | (go_at_call 35; (with_reducible refine HT2.out.mono ?_); rintro e w2 ⟨rfl, hp⟩; have HP1 := Lib.hid hp; clear hp)
    | (go_at_call 33; (with_reducible refine (HE2.out _ HP1.out).mono ?_); rintro e w3 ⟨rfl, hp⟩; have HP2 := Lib.hid hp; clear hp))
  go_end0
  exact ⟨rfl, HP2.out⟩

set_option maxRecDepth 100000 in
set_option maxHeartbeats 2000000 in
theorem take_0 (D : Nat) (a : PV) (x : Int) (hx : ¬ x = 24 ∧ ¬ x = 26 ∧ ¬ x = 27) (w : World) (h : PB w D a) (hs : a.state = .int .i64 0) (Q : World → Prop) (HC : Calls Tryd.prog 50 #[.pointer (some ⟨D, 0, none⟩), .int .u8 x] w (fun e w' => e = .returned (.tuple #[]) ∧ Q w')) :
    Calls Tryd.prog 22 #[.pointer (some ⟨D, 0, none⟩), .int .u8 x] w (fun e w' => e = .returned (.tuple #[]) ∧ Q w') := by
  have HC2 := Lib.hid HC
  have HT : Hid (Calls Tryd.prog 36 #[.pointer (some ⟨D, 0, none⟩)] w (fun e w' => e = .returned (.func (.func 50) #[.pointer (some ⟨D, 0, none⟩)] #[]) ∧ w = w')) := Lib.hid (taker_any D a 0 (by omega) w h hs)
  have n1 : (x == 24) = false := by simpa using hx.1
  have n2 : (x == 26) = false := by simpa using hx.2.1
  have n3 : (x == 27) = false := by simpa using hx.2.2
  clear hx h hs HC
  go_enter Tryd.func22, Tryd.ntmps22
  go_wp2_with (first
    | (go_at_call 36; (with_reducible refine HT.out.mono ?_); rintro e w2 ⟨rfl, rfl⟩)
    | (go_at_call 50; (with_reducible refine HC2.out.mono ?_); rintro e w3 ⟨rfl, hp⟩; have HP2 := Lib.hid hp; clear hp))
  go_end0
  exact ⟨rfl, HP2.out⟩

set_option maxRecDepth 100000 in
set_option maxHeartbeats 2000000 in
theorem take_1 (D : Nat) (a : PV) (x : Int) (hx : ¬ x = 24 ∧ ¬ x = 26 ∧ ¬ x = 27) (w : World) (h : PB w D a) (hs : a.state = .int .i64 1) (Q : World → Prop) (HC : Calls Tryd.prog 45 #[.pointer (some ⟨D, 0, none⟩), .int .u8 x] w (fun e w' => e = .returned (.tuple #[]) ∧ Q w')) :
    Calls Tryd.prog 22 #[.pointer (some ⟨D, 0, none⟩), .int .u8 x] w (fun e w' => e = .returned (.tuple #[]) ∧ Q w') := by
  have HC2 := Lib.hid HC
  have HT : Hid (Calls Tryd.prog 36 #[.pointer (some ⟨D, 0, none⟩)] w (fun e w' => e = .returned (.func (.func 45) #[.pointer (some ⟨D, 0, none⟩)] #[]) ∧ w = w')) := Lib.hid (taker_any D a 1 (by omega) w h hs)
  have n1 : (x == 24) = false := by simpa using hx.1
  have n2 : (x == 26) = false := by simpa using hx.2.1
  have n3 : (x == 27) = false := by simpa using hx.2.2
  clear hx h hs HC
  go_enter Tryd.func22, Tryd.ntmps22
  go_wp2_with (first
    | (go_at_call 36; (with_reducible refine HT.out.mono ?_); rintro e w2 ⟨rfl, rfl⟩)
    | (go_at_call 45; (with_reducible refine HC2.out.mono ?_); rintro e w3 ⟨rfl, hp⟩; have HP2 := Lib.hid hp; clear hp))
  go_end0
  exact ⟨rfl, HP2.out⟩

set_option maxRecDepth 100000 in
set_option maxHeartbeats 2000000 in
theorem take_2 (D : Nat) (a : PV) (x : Int) (hx : ¬ x = 24 ∧ ¬ x = 26 ∧ ¬ x = 27) (w : World) (h : PB w D a) (hs : a.state = .int .i64 2) (Q : World → Prop) (HC : Calls Tryd.prog 46 #[.pointer (some ⟨D, 0, none⟩), .int .u8 x] w (fun e w' => e = .returned (.tuple #[]) ∧ Q w')) :
    Calls Tryd.prog 22 #[.pointer (some ⟨D, 0, none⟩), .int .u8 x] w (fun e w' => e = .returned (.tuple #[]) ∧ Q w') := by
  have HC2 := Lib.hid HC
  have HT : Hid (Calls Tryd.prog 36 #[.pointer (some ⟨D, 0, none⟩)] w (fun e w' => e = .returned (.func (.func 46) #[.pointer (some ⟨D, 0, none⟩)] #[]) ∧ w = w')) := Lib.hid (taker_any D a 2 (by omega) w h hs)
  have n1 : (x == 24) = false := by simpa using hx.1
  have n2 : (x == 26) = false := by simpa using hx.2.1
  have n3 : (x == 27) = false := by simpa using hx.2.2
  clear hx h hs HC
  go_enter Tryd.func22, Tryd.ntmps22
  go_wp2_with (first
    | (go_at_call 36; (with_reducible refine HT.out.mono ?_); rintro e w2 ⟨rfl, rfl⟩)
    | (go_at_call 46; (with_reducible refine HC2.out.mono ?_); rintro e w3 ⟨rfl, hp⟩; have HP2 := Lib.hid hp; clear hp))
  go_end0
  exact ⟨rfl, HP2.out⟩

set_option maxRecDepth 100000 in
set_option maxHeartbeats 2000000 in
theorem take_3 (D : Nat) (a : PV) (x : Int) (hx : ¬ x = 24 ∧ ¬ x = 26 ∧ ¬ x = 27) (w : World) (h : PB w D a) (hs : a.state = .int .i64 3) (Q : World → Prop) (HC : Calls Tryd.prog 47 #[.pointer (some ⟨D, 0, none⟩), .int .u8 x] w (fun e w' => e = .returned (.tuple #[]) ∧ Q w')) :
    Calls Tryd.prog 22 #[.pointer (some ⟨D, 0, none⟩), .int .u8 x] w (fun e w' => e = .returned (.tuple #[]) ∧ Q w') := by
  have HC2 := Lib.hid HC
  have HT : Hid (Calls Tryd.prog 36 #[.pointer (some ⟨D, 0, none⟩)] w (fun e w' => e = .returned (.func (.func 47) #[.pointer (some ⟨D, 0, none⟩)] #[]) ∧ w = w')) := Lib.hid (taker_any D a 3 (by omega) w h hs)
  have n1 : (x == 24) = false := by simpa using hx.1
  have n2 : (x == 26) = false := by simpa using hx.2.1
  have n3 : (x == 27) = false := by simpa using hx.2.2
  clear hx h hs HC
  go_enter Tryd.func22, Tryd.ntmps22
  go_wp2_with (first
    | (go_at_call 36; (with_reducible refine HT.out.mono ?_); rintro e w2 ⟨rfl, rfl⟩)
    | (go_at_call 47; (with_reducible refine HC2.out.mono ?_); rintro e w3 ⟨rfl, hp⟩; have HP2 := Lib.hid hp; clear hp))
  go_end0
  exact ⟨rfl, HP2.out⟩

set_option maxRecDepth 100000 in
set_option maxHeartbeats 2000000 in
theorem take_4 (D : Nat) (a : PV) (x : Int) (hx : ¬ x = 24 ∧ ¬ x = 26 ∧ ¬ x = 27) (w : World) (h : PB w D a) (hs : a.state = .int .i64 4) (Q : World → Prop) (HC : Calls Tryd.prog 48 #[.pointer (some ⟨D, 0, none⟩), .int .u8 x] w (fun e w' => e = .returned (.tuple #[]) ∧ Q w')) :
    Calls Tryd.prog 22 #[.pointer (some ⟨D, 0, none⟩), .int .u8 x] w (fun e w' => e = .returned (.tuple #[]) ∧ Q w') := by
  have HC2 := Lib.hid HC
  have HT : Hid (Calls Tryd.prog 36 #[.pointer (some ⟨D, 0, none⟩)] w (fun e w' => e = .returned (.func (.func 48) #[.pointer (some ⟨D, 0, none⟩)] #[]) ∧ w = w')) := Lib.hid (taker_any D a 4 (by omega) w h hs)
  have n1 : (x == 24) = false := by simpa using hx.1
  have n2 : (x == 26) = false := by simpa using hx.2.1
  have n3 : (x == 27) = false := by simpa using hx.2.2
  clear hx h hs HC
  go_enter Tryd.func22, Tryd.ntmps22
  go_wp2_with (first
    | (go_at_call 36; (with_reducible refine HT.out.mono ?_); rintro e w2 ⟨rfl, rfl⟩)
    | (go_at_call 48; (with_reducible refine HC2.out.mono ?_); rintro e w3 ⟨rfl, hp⟩; have HP2 := Lib.hid hp; clear hp))
  go_end0
  exact ⟨rfl, HP2.out⟩

set_option maxRecDepth 100000 in
set_option maxHeartbeats 2000000 in
theorem take_5 (D : Nat) (a : PV) (x : Int) (hx : ¬ x = 24 ∧ ¬ x = 26 ∧ ¬ x = 27) (w : World) (h : PB w D a) (hs : a.state = .int .i64 5) (Q : World → Prop) (HC : Calls Tryd.prog 49 #[.pointer (some ⟨D, 0, none⟩), .int .u8 x] w (fun e w' => e = .returned (.tuple #[]) ∧ Q w')) :
    Calls Tryd.prog 22 #[.pointer (some ⟨D, 0, none⟩), .int .u8 x] w (fun e w' => e = .returned (.tuple #[]) ∧ Q w') := by
  have HC2 := Lib.hid HC
  have HT : Hid (Calls Tryd.prog 36 #[.pointer (some ⟨D, 0, none⟩)] w (fun e w' => e = .returned (.func (.func 49) #[.pointer (some ⟨D, 0, none⟩)] #[]) ∧ w = w')) := Lib.hid (taker_any D a 5 (by omega) w h hs)
  have n1 : (x == 24) = false := by simpa using hx.1
  have n2 : (x == 26) = false := by simpa using hx.2.1
  have n3 : (x == 27) = false := by simpa using hx.2.2
  clear hx h hs HC
  go_enter Tryd.func22, Tryd.ntmps22
  go_wp2_with (first
    | (go_at_call 36; (with_reducible refine HT.out.mono ?_); rintro e w2 ⟨rfl, rfl⟩)
    | (go_at_call 49; (with_reducible refine HC2.out.mono ?_); rintro e w3 ⟨rfl, hp⟩; have HP2 := Lib.hid hp; clear hp))
  go_end0
  exact ⟨rfl, HP2.out⟩

end Go.Proofs.YtmmkcfjncpcabaaDoor
