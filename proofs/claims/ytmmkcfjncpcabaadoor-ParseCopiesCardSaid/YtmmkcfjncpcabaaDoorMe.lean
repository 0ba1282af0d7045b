/- The walks of between's other ways, and of pay. -/
import Derived.Test.YtmmkcfjncpcabaaDoorMd
namespace Go.Proofs.YtmmkcfjncpcabaaDoor
open Go.RowKit

set_option maxRecDepth 100000 in
set_option maxHeartbeats 1000000 in
theorem between_wrong (D : Nat) (a : PV) (x : Int) (w : World) (h : PB w D a) (hw : a.wrong = .bool true) :
    Calls Tryd.prog 58 #[.pointer (some ⟨D, 0, none⟩), .int .u8 x] w fun e w' => e = .returned (.tuple #[]) ∧ w = w' := by
  have c3 : w.cell? ⟨D, 3, none⟩ = some a.wrong := h.cell 3
  rw [hw] at c3
  clear h hw
  go_enter Tryd.func58, Tryd.ntmps58
  go_wp2
  go_end0
  exact ⟨rfl, rfl⟩
set_option maxRecDepth 100000 in
set_option maxHeartbeats 1000000 in
theorem between_spoil (D : Nat) (a : PV) (x : Int) (A : Option Addr) (n c : Nat) (w : World) (h : PB w D a) (hw : a.wrong = .bool false) (hi : a.inter = .slice A n c) (hn : 2 ≤ n) :
    Calls Tryd.prog 58 #[.pointer (some ⟨D, 0, none⟩), .int .u8 x] w (MPost D (a.fresh true) w) := by
  have HS := Lib.hid (spoil_any D a w h)
  have HF : Hid (∀ w', PB w' D (a.fresh true) ∧ w.grownBy w' (some D) → MPost D (a.fresh true) w (.returned (.tuple #[])) w') := Lib.hid fun w' h => ⟨rfl, h⟩
  have c2 : w.cell? ⟨D, 2, none⟩ = some a.inter := h.cell 2
  have c3 : w.cell? ⟨D, 3, none⟩ = some a.wrong := h.cell 3
  rw [hw] at c3
  rw [hi] at c2
  have hd : decide ((n : Int) < 2) = false := decide_eq_false (by omega)
  have hd2 : decide (n < 2) = false := decide_eq_false (by omega)
  unfold MPost at HS
  clear h hw hi hn
  go_enter Tryd.func58, Tryd.ntmps58
  go_wp2_with (go_at_call 70; (with_reducible refine HS.out.mono ?_); rintro e w2 ⟨rfl, hp2⟩; have HP2 := Lib.hid hp2; clear hp2)
  go_end0
  exact HF.out _ HP2.out

/-- A byte of a payload has been taken. -/
def YPost (D : Nat) (a : PV) (T : List UInt8) (w : World) (en : Ending) (w' : World) : Prop :=
  ∃ v', en = .returned (.tuple #[]) ∧ PB w' D { a with pay := v' } ∧ w'.ownsRow (D + 1) 5 1 v' T.length (Lib.byteCells T) ∧ KB (fun i => i = D ∨ some i = a.pay.ownBlock) w w' ∧ (v'.ownBlock = a.pay.ownBlock ∨ ∃ g, v'.ownBlock = some g ∧ w.heap.size ≤ g)
theorem pay_end {D : Nat} {a : PV} {T : List UInt8} {x : UInt8} {w w5 : World} {v2 : Value} {o : Obj} (h : PB w D a) (hown : w.ownsRow (D + 1) 5 1 a.pay T.length (Lib.byteCells T)) (h2 : w5.ownsRow (D + 1) 5 1 v2 (T.length + 1) (Lib.byteCells T ++ [.int .u8 x.toNat])) (hg : (w.alloc o).grownBy w5 a.pay.ownBlock) (hat : v2.ownBlock = a.pay.ownBlock ∨ v2.ownBlock = some (w.alloc o).heap.size) :
    w5.cell? ⟨D, 5, none⟩ = some a.pay ∧ w5.frozen? ⟨D, 5, none⟩ = false ∧ YPost D a (T ++ [x]) w (.returned (.tuple #[])) (w5.setCell ⟨D, 5, none⟩ v2) := by
  have hlt := lt_of_block h
  have hne : some D ≠ a.pay.ownBlock := fun e => by have := (hown.lt D e.symm).1; omega
  have h5 : PB w5 D a := (hg.block D (by simp; omega) hne).trans (alloc_block h)
  refine ⟨h5.cell 5, h5.free 5, v2, rfl, h5.set 5 v2 rfl, ?_, ⟨hg.os, hg.tape, hg.output, ?_, fun i hi hS => ?_⟩, hat.imp id fun e => ⟨_, e, by simp⟩⟩
  · rw [List.length_append, Lib.byteCells, List.map_append]
    exact h2.kept (⟨rfl, rfl, rfl, by simp, fun k _ hne => heap_setCell_other w5 ⟨D, 5, none⟩ k v2 (fun e => hne (by rw [e]))⟩) (.inr (fun e => by have := (h2.lt D e).1; omega))
  · rw [World.size_setCell]
    have := hg.size
    simp at this
    omega
  · rw [heap_setCell_other w5 ⟨D, 5, none⟩ i v2 (fun e => hS (.inl e)), hg.block i (by simp; omega) (fun e => hS (.inr e))]
    exact ((Below.refl w.heap.size w).alloc (Nat.le_refl _) o).block i hi

set_option maxRecDepth 100000 in
set_option maxHeartbeats 1000000 in
theorem pay_wrong (D : Nat) (a : PV) (x : Int) (w : World) (h : PB w D a) (hw : a.wrong = .bool true) :
    Calls Tryd.prog 62 #[.pointer (some ⟨D, 0, none⟩), .int .u8 x] w fun e w' => e = .returned (.tuple #[]) ∧ w = w' := by
  have c3 : w.cell? ⟨D, 3, none⟩ = some a.wrong := h.cell 3
  rw [hw] at c3
  clear h hw
  go_enter Tryd.func62, Tryd.ntmps62
  go_wp2
  go_end0
  exact ⟨rfl, rfl⟩
set_option maxRecDepth 100000 in
set_option maxHeartbeats 4000000 in
theorem pay_add (D : Nat) (a : PV) (T : List UInt8) (x : UInt8) (mo : Nat) (w : World) (h : PB w D a) (hw : a.wrong = .bool false) (hmo : a.most = .int .i64 mo) (hown : w.ownsRow (D + 1) 5 1 a.pay T.length (Lib.byteCells T)) (hT : T.length < mo) (h6 : mo ≤ 65536) :
    Calls Tryd.prog 62 #[.pointer (some ⟨D, 0, none⟩), .int .u8 x.toNat] w (YPost D a (T ++ [x]) w) := by
  obtain ⟨i0, hi0, hz0, hz1, hz2⟩ := info_parts Tryd.infoB
  obtain ⟨A0, c0, hv0, _⟩ := own_form hown
  have HEND : Hid (∀ n w5 v2, ((w.drewN n).alloc (.cells #[.int .u8 x.toNat] 5)).grownBy w5 a.pay.ownBlock → w5.ownsRow (D + 1) 5 1 v2 (T.length + 1) (Lib.byteCells T ++ [.int .u8 x.toNat]) → (v2.ownBlock = a.pay.ownBlock ∨ v2.ownBlock = some (w.heap.size + 1)) → w5.cell? ⟨D, 5, none⟩ = some a.pay ∧ w5.frozen? ⟨D, 5, none⟩ = false ∧ YPost D a (T ++ [x]) w (.returned (.tuple #[])) (w5.setCell ⟨D, 5, none⟩ v2)) := Lib.hid fun n w5 v2 hg h2 hat => pay_end (o := .cells #[.int .u8 x.toNat] 5) h hown h2 ⟨hg.os, hg.tape, hg.output, hg.size, hg.block⟩ (by simpa using hat)
  have HOWN : Hid (∀ n b, ((w.drewN n).alloc b).ownsRow (D + 1) 5 1 a.pay T.length (Lib.byteCells T)) := Lib.hid fun n b => World.ownsRow.alloc (w := w.drewN n) hown b
  have hlt := lt_of_block h
  have c3 : w.cell? ⟨D, 3, none⟩ = some a.wrong := h.cell 3
  have c5 : w.cell? ⟨D, 5, none⟩ = some a.pay := h.cell 5
  have c8 : w.cell? ⟨D, 8, none⟩ = some a.most := h.cell 8
  rw [hw] at c3
  rw [hmo] at c8
  have f5 := h.free 5
  have hd : decide ((T.length : Int) < mo) = true := decide_eq_true (by omega)
  have hd2 : decide (T.length < mo) = true := decide_eq_true hT
  generalize a.pay = vi at *
  subst hv0
  generalize Lib.byteCells T = TL at *
  clear h hown hw hmo
  go_enter Tryd.func62, Tryd.ntmps62
  go_wp2_with fail
  go_quiet (fail)
  go_wp2_with (at_builtin; go_must (refine wpList_append_own_at _ rfl _ _ 22 rfl (D + 1) 5 i0 (.int .u8 0) 1 1 Tryd.underlying22 hi0 hz0 hz1 hz2 rfl (by decide) (.slice A0 T.length c0) T.length TL rfl (HOWN.out _ _) ⟨w.heap.size, 0, none⟩ 1 1 [.int .u8 x.toNat] rfl rfl (news1 _ _ _) (by simp [Value.oneCell']) (by unfold maxLen; omega) (by omega) (by simp; omega) ?_; intro v2 w5 hown2 hgrow2 _ hat2; have hat2 := hat_size hat2; obtain ⟨A5, c5, rfl, _⟩ := own_form hown2; obtain ⟨hc5, hf5, hp5⟩ := HEND.out _ w5 _ hgrow2 hown2 hat2; have HP5 := Lib.hid hp5; clear hown2 hgrow2 hp5 hat2))
  go_end0
  exact HP5.out

end Go.Proofs.YtmmkcfjncpcabaaDoor
