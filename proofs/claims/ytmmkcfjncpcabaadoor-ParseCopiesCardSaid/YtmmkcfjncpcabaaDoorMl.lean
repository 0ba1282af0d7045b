/- The walk of tellString's way for a command. -/
import Derived.Test.YtmmkcfjncpcabaaDoorMk
namespace Go.Proofs.YtmmkcfjncpcabaaDoor
open Go.RowKit

theorem tpost_past {D n : Nat} {a : PV} {cs : List Value} {e : EVal} {w W w' : World} {en : Ending} (h : TPost D a n cs e W en w') (hb : Below w.heap.size w W) : TPost D a n cs e w en w' := by
  obtain ⟨v', h1, h2, h3, hk⟩ := h
  exact ⟨v', h1, h2, h3, ⟨hk.1.os.trans hb.os, hk.1.tape.trans hb.tape, hk.1.output.trans hb.output, Nat.le_trans hb.size hk.1.size, fun i hi hS => (hk.1.block i (Nat.lt_of_lt_of_le hi hb.size) hS).trans (hb.block i hi)⟩, hk.2.imp id fun ⟨g, e, hg⟩ => ⟨g, e, Nat.le_trans hb.size hg⟩⟩
theorem PB.past {D : Nat} {a : PV} {w W : World} (h : PB w D a) (hb : Below w.heap.size w W) : PB W D a := (hb.block D (lt_of_block h)).trans h

def oscE (T : List UInt8) (b : Bool) : EVal := ⟨4, 0, 0, 0, .slice none 0 0, ⟨#[]⟩, bsB T, b⟩
set_option maxRecDepth 100000 in
set_option maxHeartbeats 2000000 in
theorem string_osc (D : Nat) (a : PV) (n : Nat) (cs : List Value) (T : List UInt8) (b : Bool) (w : World) (h : PB w D a) (hw : a.wrong = .bool false) (hs : a.state = .int .i64 4) (hc : a.cut = .bool b) (hown : w.ownsRow (D + 1) 41 8 a.evs n cs) (hn : n ≤ 100000) (hp : w.ownsRow (D + 1) 5 1 a.pay T.length (Lib.byteCells T)) :
    Calls Tryd.prog 35 #[.pointer (some ⟨D, 0, none⟩)] w (TPost D a n cs (oscE T b) w) := by
  obtain ⟨A0, c0, hv0, _⟩ := own_form hp
  have hcv1 : ∀ W, Below w.heap.size w W → (Go.convert 22 9 (.slice A0 T.length c0)).run Tryd.prog W = .ok (.string (bsB T)) W := fun W hW => conv_own (own_past (by rw [← hv0]; exact hp) hW) rfl
  have hcv : ∀ o, (Go.convert 22 9 (.slice A0 T.length c0)).run Tryd.prog (w.alloc o).drew = .ok (.string (bsB T)) (w.alloc o).drew := fun o => hcv1 _ ((Below.refl _ _).alloc (Nat.le_refl _) o).drew
  have HT : Hid (∀ W, Below w.heap.size w W → Calls Tryd.prog 43 #[.pointer (some ⟨D, 0, none⟩), .agg #[.int .i64 4, .int .i32 0, .int .u8 0, .int .u8 0, .slice none 0 0, .string ⟨#[]⟩, .string (bsB T), .bool b]] W (TPost D a n cs (oscE T b) w)) := Lib.hid fun W hW => (tell_any D a n cs (oscE T b) W (h.past hW) (own_past hown hW) hn rfl).mono fun e w' h => tpost_past h hW
  have HE : Hid (∀ w' v', PB w' D { a with evs := v' } ∧ w'.ownsRow (D + 1) 41 8 v' (n + 1) (cs ++ (oscE T b).cells) ∧ TK D a v' w w' → TPost D a n cs (oscE T b) w (.returned (.tuple #[])) w') := Lib.hid fun w' v' h => ⟨v', rfl, h⟩
  have HB : Hid (∀ o u2 u3, Below w.heap.size w ((((w.alloc o).drew).setCell ⟨w.heap.size, 6, none⟩ u2).setCell ⟨w.heap.size, 7, none⟩ u3)) := Lib.hid fun o u2 u3 => ((((Below.refl _ _).alloc (Nat.le_refl _) o).drew).setCell (Nat.le_refl _) u2).setCell (Nat.le_refl _) u3
  have HB2 : Hid (∀ o u2 u3, Below w.heap.size w ((((w.alloc o).drew).setCell ⟨w.heap.size, 7, none⟩ u2).setCell ⟨w.heap.size, 6, none⟩ u3)) := Lib.hid fun o u2 u3 => ((((Below.refl _ _).alloc (Nat.le_refl _) o).drew).setCell (Nat.le_refl _) u2).setCell (Nat.le_refl _) u3
  have HB3 : Hid (∀ o, Below w.heap.size w (w.alloc o).drew) := Lib.hid fun o => ((Below.refl _ _).alloc (Nat.le_refl _) o).drew
  have HB4 : Hid (∀ o, Below w.heap.size w (w.alloc o)) := Lib.hid fun o => ((Below.refl _ _).alloc (Nat.le_refl _) o)
  have hlt := lt_of_block h
  have c3 : w.cell? ⟨D, 3, none⟩ = some a.wrong := h.cell 3
  have c7 : w.cell? ⟨D, 7, none⟩ = some a.state := h.cell 7
  have c5 : w.cell? ⟨D, 5, none⟩ = some a.pay := h.cell 5
  have c6 : w.cell? ⟨D, 6, none⟩ = some a.cut := h.cell 6
  rw [hw] at c3
  rw [hs] at c7
  rw [hv0] at c5
  rw [hc] at c6
  generalize oscE T b = E at *
  generalize bsB T = S at *
  generalize T.length = m at *
  clear h hw hs hc hown hn hp hv0 hcv1
  unfold TPost at HT
  go_enter Tryd.func35, Tryd.ntmps35
  go_wp2_with fail
  go_region_law fail
  all_goals go_wp2_with (go_at_call 43; (with_reducible refine (HT.out _ (by first | exact HB.out _ _ _ | exact HB2.out _ _ _ | exact HB3.out _ | exact HB4.out _)).mono ?_); rintro e w2 ⟨v2, rfl, hp2⟩; have HP2 := Lib.hid hp2; clear hp2)
  all_goals
    go_end0
    exact HE.out _ _ HP2.out

end Go.Proofs.YtmmkcfjncpcabaaDoor
