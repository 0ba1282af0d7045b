/- The walks of pay's last way, and of parameter. -/
import Derived.Test.YtmmkcfjncpcabaaDoorMe
namespace Go.Proofs.YtmmkcfjncpcabaaDoor
open Go.RowKit

set_option maxRecDepth 100000 in
set_option maxHeartbeats 4000000 in
theorem pay_cut (D : Nat) (a : PV) (A : Option Addr) (n c mo : Nat) (x : Int) (b : Bool) (w : World) (h : PB w D a) (hw : a.wrong = .bool false) (hmo : a.most = .int .i64 mo) (hp : a.pay = .slice A n c) (hct : a.cut = .bool b) (hT : mo ≤ n) :
    Calls Tryd.prog 62 #[.pointer (some ⟨D, 0, none⟩), .int .u8 x] w (MPost D { a with cut := .bool true } w) := by
  have HF : Hid (∀ n, MPost D { a with cut := .bool true } w (.returned (.tuple #[])) ((w.drewN n).setCell ⟨D, 6, none⟩ (.bool true))) := Lib.hid fun n => ⟨rfl, PB.set (W := w.drewN n) h 6 _ rfl, keptD (w := w) (W := w.drewN n) ⟨rfl, rfl, rfl, Nat.le_refl _, fun _ _ _ => rfl⟩ 6 _⟩
  have c3 : w.cell? ⟨D, 3, none⟩ = some a.wrong := h.cell 3
  have c5 : w.cell? ⟨D, 5, none⟩ = some a.pay := h.cell 5
  have c6 : w.cell? ⟨D, 6, none⟩ = some a.cut := h.cell 6
  have c8 : w.cell? ⟨D, 8, none⟩ = some a.most := h.cell 8
  rw [hw] at c3
  rw [hp] at c5
  rw [hct] at c6
  rw [hmo] at c8
  have f6 := h.free 6
  have hd : decide ((n : Int) < mo) = false := decide_eq_false (by omega)
  have hd2 : decide (n < mo) = false := decide_eq_false (by omega)
  clear h hw hmo hp hct hT
  go_enter Tryd.func62, Tryd.ntmps62
  go_wp2_with fail
  go_quiet (fail)
  go_wp2
  go_end0
  exact HF.out _

/-- A byte of a head has been taken. -/
def HPost (D : Nat) (a : PV) (T : List UInt8) (w : World) (en : Ending) (w' : World) : Prop :=
  ∃ v', en = .returned (.tuple #[]) ∧ PB w' D { a with head := v' } ∧ w'.ownsRow (D + 1) 5 1 v' T.length (Lib.byteCells T) ∧ KB (fun i => i = D ∨ some i = a.head.ownBlock) w w' ∧ (v'.ownBlock = a.head.ownBlock ∨ ∃ g, v'.ownBlock = some g ∧ w.heap.size ≤ g)
theorem head_end {D : Nat} {a : PV} {T : List UInt8} {x : UInt8} {w w5 : World} {v2 : Value} {o : Obj} (h : PB w D a) (hown : w.ownsRow (D + 1) 5 1 a.head T.length (Lib.byteCells T)) (h2 : w5.ownsRow (D + 1) 5 1 v2 (T.length + 1) (Lib.byteCells T ++ [.int .u8 x.toNat])) (hg : (w.alloc o).grownBy w5 a.head.ownBlock) (hat : v2.ownBlock = a.head.ownBlock ∨ v2.ownBlock = some (w.alloc o).heap.size) :
    w5.cell? ⟨D, 1, none⟩ = some a.head ∧ w5.frozen? ⟨D, 1, none⟩ = false ∧ HPost D a (T ++ [x]) w (.returned (.tuple #[])) (w5.setCell ⟨D, 1, none⟩ v2) := by
  have hlt := lt_of_block h
  have hne : some D ≠ a.head.ownBlock := fun e => by have := (hown.lt D e.symm).1; omega
  have h5 : PB w5 D a := (hg.block D (by simp; omega) hne).trans (alloc_block h)
  refine ⟨h5.cell 1, h5.free 1, v2, rfl, h5.set 1 v2 rfl, ?_, ⟨hg.os, hg.tape, hg.output, ?_, fun i hi hS => ?_⟩, hat.imp id fun e => ⟨_, e, by simp⟩⟩
  · rw [List.length_append, Lib.byteCells, List.map_append]
    exact h2.kept (⟨rfl, rfl, rfl, by simp, fun k _ hne => heap_setCell_other w5 ⟨D, 1, none⟩ k v2 (fun e => hne (by rw [e]))⟩) (.inr (fun e => by have := (h2.lt D e).1; omega))
  · rw [World.size_setCell]
    have := hg.size
    simp at this
    omega
  · rw [heap_setCell_other w5 ⟨D, 1, none⟩ i v2 (fun e => hS (.inl e)), hg.block i (by simp; omega) (fun e => hS (.inr e))]
    exact ((Below.refl w.heap.size w).alloc (Nat.le_refl _) o).block i hi

set_option maxRecDepth 100000 in
set_option maxHeartbeats 4000000 in
theorem par_head (D : Nat) (a : PV) (T : List UInt8) (x : UInt8) (Ai : Option Addr) (ci : Nat) (w : World) (h : PB w D a) (hw : a.wrong = .bool false) (hi : a.inter = .slice Ai 0 ci) (hown : w.ownsRow (D + 1) 5 1 a.head T.length (Lib.byteCells T)) (hT : T.length < 256) (hx : 48 ≤ x.toNat ∧ x.toNat < 60) :
    Calls Tryd.prog 60 #[.pointer (some ⟨D, 0, none⟩), .int .u8 x.toNat] w (HPost D a (T ++ [x]) w) := by
  obtain ⟨i0, hi0, hz0, hz1, hz2⟩ := info_parts Tryd.infoB
  obtain ⟨A0, c0, hv0, _⟩ := own_form hown
  have HEND : Hid (∀ w5 v2, (w.alloc (.cells #[.int .u8 x.toNat] 5)).grownBy w5 a.head.ownBlock → w5.ownsRow (D + 1) 5 1 v2 (T.length + 1) (Lib.byteCells T ++ [.int .u8 x.toNat]) → (v2.ownBlock = a.head.ownBlock ∨ v2.ownBlock = some (w.heap.size + 1)) → w5.cell? ⟨D, 1, none⟩ = some a.head ∧ w5.frozen? ⟨D, 1, none⟩ = false ∧ HPost D a (T ++ [x]) w (.returned (.tuple #[])) (w5.setCell ⟨D, 1, none⟩ v2)) := Lib.hid fun w5 v2 hg h2 hat => head_end h hown h2 hg (by simpa using hat)
  have HOWN : Hid (∀ b, (w.alloc b).ownsRow (D + 1) 5 1 a.head T.length (Lib.byteCells T)) := Lib.hid fun b => hown.alloc _
  have hlt := lt_of_block h
  have c1 : w.cell? ⟨D, 1, none⟩ = some a.head := h.cell 1
  have c2 : w.cell? ⟨D, 2, none⟩ = some a.inter := h.cell 2
  have c3 : w.cell? ⟨D, 3, none⟩ = some a.wrong := h.cell 3
  rw [hw] at c3
  rw [hi] at c2
  have f1 := h.free 1
  have hd : decide ((T.length : Int) < 256) = true := decide_eq_true (by omega)
  have hdi : (T.length : Int) < 256 := by omega
  have e1 : decide ((x.toNat : Int) < 48) = false := decide_eq_false (by omega)
  have e2 : decide ((x.toNat : Int) < 60) = true := decide_eq_true (by omega)
  have e3 : decide (x.toNat < 48) = false := decide_eq_false (by omega)
  have e4 : decide (x.toNat < 60) = true := decide_eq_true (by omega)
  have e5 : (x.toNat : Int) < 60 := by omega
  generalize a.head = vi at *
  subst hv0
  generalize Lib.byteCells T = TL at *
  clear h hown hw hi hx
  go_enter Tryd.func60, Tryd.ntmps60
  go_wp2_with (at_builtin; go_must (refine wpList_append_own_at _ rfl _ _ 22 rfl (D + 1) 5 i0 (.int .u8 0) 1 1 Tryd.underlying22 hi0 hz0 hz1 hz2 rfl (by decide) (.slice A0 T.length c0) T.length TL rfl (HOWN.out _) ⟨w.heap.size, 0, none⟩ 1 1 [.int .u8 x.toNat] rfl rfl (news1 _ _ _) (by simp [Value.oneCell']) (by unfold maxLen; omega) (by omega) (by simp; omega) ?_; intro v2 w5 hown2 hgrow2 _ hat2; have hat2 := hat_size hat2; obtain ⟨A5, c5, rfl, _⟩ := own_form hown2; obtain ⟨hc5, hf5, hp5⟩ := HEND.out w5 _ hgrow2 hown2 hat2; have HP5 := Lib.hid hp5; clear hown2 hgrow2 hp5 hat2))
  go_end0
  exact HP5.out

set_option maxRecDepth 100000 in
set_option maxHeartbeats 4000000 in
theorem par_wrong (D : Nat) (a : PV) (x : Int) (hx : ¬ x < 48) (w : World) (h : PB w D a) (hw : a.wrong = .bool true) :
    Calls Tryd.prog 60 #[.pointer (some ⟨D, 0, none⟩), .int .u8 x] w fun e w' => e = .returned (.tuple #[]) ∧ w = w' := by
  have c3 : w.cell? ⟨D, 3, none⟩ = some a.wrong := h.cell 3
  rw [hw] at c3
  have e1 : decide (x < 48) = false := decide_eq_false hx
  clear h hw hx
  go_enter Tryd.func60, Tryd.ntmps60
  go_wp2
  go_end0
  exact ⟨rfl, rfl⟩
set_option maxRecDepth 100000 in
set_option maxHeartbeats 4000000 in
theorem par_inter (D : Nat) (a : PV) (x : Int) (hx : ¬ x < 48) (Ai : Option Addr) (n ci : Nat) (hn : 0 < n) (w : World) (h : PB w D a) (hw : a.wrong = .bool false) (hi : a.inter = .slice Ai n ci) :
    Calls Tryd.prog 60 #[.pointer (some ⟨D, 0, none⟩), .int .u8 x] w (MPost D (a.fresh true) w) := by
  have HS := Lib.hid (spoil_any D a w h)
  have HF : Hid (∀ w', PB w' D (a.fresh true) ∧ w.grownBy w' (some D) → MPost D (a.fresh true) w (.returned (.tuple #[])) w') := Lib.hid fun w' h => ⟨rfl, h⟩
  have c2 : w.cell? ⟨D, 2, none⟩ = some a.inter := h.cell 2
  have c3 : w.cell? ⟨D, 3, none⟩ = some a.wrong := h.cell 3
  rw [hw] at c3
  rw [hi] at c2
  have e1 : decide (x < 48) = false := decide_eq_false hx
  have hd : decide ((n : Int) > 0) = true := decide_eq_true (by omega)
  have hd2 : (0 : Int) < n := by omega
  unfold MPost at HS
  clear h hw hi hn hx
  go_enter Tryd.func60, Tryd.ntmps60
  go_wp2_with (go_at_call 70; (with_reducible refine HS.out.mono ?_); rintro e w2 ⟨rfl, hp2⟩; have HP2 := Lib.hid hp2; clear hp2)
  go_end0
  exact HF.out _ HP2.out

end Go.Proofs.YtmmkcfjncpcabaaDoor
