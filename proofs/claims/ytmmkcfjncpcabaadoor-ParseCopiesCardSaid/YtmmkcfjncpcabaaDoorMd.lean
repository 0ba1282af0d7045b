/- The walks of execute, between and pay. -/
import Derived.Test.YtmmkcfjncpcabaaDoorMc
import Derived.Maps.AppendAt
namespace Go.Proofs.YtmmkcfjncpcabaaDoor
open Go.RowKit

theorem hat_size {v v' : Value} {w : World} {o : Obj} (h : v'.ownBlock = v.ownBlock ∨ v'.ownBlock = some (w.alloc o).heap.size) : v'.ownBlock = v.ownBlock ∨ v'.ownBlock = some (w.heap.size + 1) := by simpa using h
def execE (c : Int) : EVal := ⟨1, 0, c, 0, .slice none 0 0, ⟨#[]⟩, ⟨#[]⟩, false⟩
theorem execute_any (D : Nat) (a : PV) (n : Nat) (cs : List Value) (c : Int) (w : World) (h : PB w D a) (hown : w.ownsRow (D + 1) 41 8 a.evs n cs) (hn : n ≤ 100000) :
    Calls Tryd.prog 34 #[.pointer (some ⟨D, 0, none⟩), .int .u8 c] w (TPost D a n cs (execE c) w) := by
  have HT : Hid (Calls Tryd.prog 43 #[.pointer (some ⟨D, 0, none⟩), .agg #[.int .i64 1, .int .i32 0, .int .u8 c, .int .u8 0, .slice none 0 0, .string ⟨#[]⟩, .string ⟨#[]⟩, .bool false]] w (TPost D a n cs (execE c) w)) := Lib.hid (tell_any D a n cs (execE c) w h hown hn rfl)
  have HE : Hid (∀ w' v', PB w' D { a with evs := v' } ∧ w'.ownsRow (D + 1) 41 8 v' (n + 1) (cs ++ (execE c).cells) ∧ TK D a v' w w' → TPost D a n cs (execE c) w (.returned (.tuple #[])) w') := Lib.hid fun w' v' h => ⟨v', rfl, h⟩
  clear h hown hn
  go_enter Tryd.func34, Tryd.ntmps34
  go_wp2_with (go_at_call 43; (with_reducible refine HT.out.mono ?_); rintro e w2 ⟨v2, rfl, hp2⟩; have HP2 := Lib.hid hp2; clear hp2)
  go_end0
  exact HE.out _ _ HP2.out

/-- A byte that stands between has been taken. -/
def BPost (D : Nat) (a : PV) (T : List UInt8) (w : World) (en : Ending) (w' : World) : Prop :=
  ∃ v', en = .returned (.tuple #[]) ∧ PB w' D { a with inter := v' } ∧ w'.ownsRow (D + 1) 5 1 v' T.length (Lib.byteCells T) ∧ KB (fun i => i = D ∨ some i = a.inter.ownBlock) w w' ∧ (v'.ownBlock = a.inter.ownBlock ∨ ∃ g, v'.ownBlock = some g ∧ w.heap.size ≤ g)
theorem between_end {D : Nat} {a : PV} {T : List UInt8} {x : UInt8} {w w5 : World} {v2 : Value} {o : Obj} (h : PB w D a) (hown : w.ownsRow (D + 1) 5 1 a.inter T.length (Lib.byteCells T)) (h2 : w5.ownsRow (D + 1) 5 1 v2 (T.length + 1) (Lib.byteCells T ++ [.int .u8 x.toNat])) (hg : (w.alloc o).grownBy w5 a.inter.ownBlock) (hat : v2.ownBlock = a.inter.ownBlock ∨ v2.ownBlock = some (w.alloc o).heap.size) :
    w5.cell? ⟨D, 2, none⟩ = some a.inter ∧ w5.frozen? ⟨D, 2, none⟩ = false ∧ BPost D a (T ++ [x]) w (.returned (.tuple #[])) (w5.setCell ⟨D, 2, none⟩ v2) := by
  have hlt := lt_of_block h
  have hne : some D ≠ a.inter.ownBlock := fun e => by have := (hown.lt D e.symm).1; omega
  have h5 : PB w5 D a := (hg.block D (by simp; omega) hne).trans (alloc_block h)
  refine ⟨h5.cell 2, h5.free 2, v2, rfl, h5.set 2 v2 rfl, ?_, ⟨hg.os, hg.tape, hg.output, ?_, fun i hi hS => ?_⟩, hat.imp id fun e => ⟨_, e, by simp⟩⟩
  · rw [List.length_append, Lib.byteCells, List.map_append]
    exact h2.kept (⟨rfl, rfl, rfl, by simp, fun k _ hne => heap_setCell_other w5 ⟨D, 2, none⟩ k v2 (fun e => hne (by rw [e]))⟩) (.inr (fun e => by have := (h2.lt D e).1; omega))
  · rw [World.size_setCell]
    have := hg.size
    simp at this
    omega
  · rw [heap_setCell_other w5 ⟨D, 2, none⟩ i v2 (fun e => hS (.inl e)), hg.block i (by simp; omega) (fun e => hS (.inr e))]
    exact ((Below.refl w.heap.size w).alloc (Nat.le_refl _) o).block i hi

theorem Tryd.infoB : (Tryd.prog.info? 5).map (fun i => (i.zero, i.size, i.bytes)) = some (some (.int .u8 0), 1, 1) := by kernel_rfl
set_option maxRecDepth 100000 in
set_option maxHeartbeats 4000000 in
theorem between_add (D : Nat) (a : PV) (T : List UInt8) (x : UInt8) (w : World) (h : PB w D a) (hw : a.wrong = .bool false) (hown : w.ownsRow (D + 1) 5 1 a.inter T.length (Lib.byteCells T)) (hT : T.length < 2) :
    Calls Tryd.prog 58 #[.pointer (some ⟨D, 0, none⟩), .int .u8 x.toNat] w (BPost D a (T ++ [x]) w) := by
  obtain ⟨i0, hi0, hz0, hz1, hz2⟩ := info_parts Tryd.infoB
  obtain ⟨A0, c0, hv0, _⟩ := own_form hown
  have HEND : Hid (∀ w5 v2, (w.alloc (.cells #[.int .u8 x.toNat] 5)).grownBy w5 a.inter.ownBlock → w5.ownsRow (D + 1) 5 1 v2 (T.length + 1) (Lib.byteCells T ++ [.int .u8 x.toNat]) → (v2.ownBlock = a.inter.ownBlock ∨ v2.ownBlock = some (w.heap.size + 1)) → w5.cell? ⟨D, 2, none⟩ = some a.inter ∧ w5.frozen? ⟨D, 2, none⟩ = false ∧ BPost D a (T ++ [x]) w (.returned (.tuple #[])) (w5.setCell ⟨D, 2, none⟩ v2)) := Lib.hid fun w5 v2 hg h2 hat => between_end h hown h2 hg (by simpa using hat)
  have HOWN : Hid (∀ b, (w.alloc b).ownsRow (D + 1) 5 1 a.inter T.length (Lib.byteCells T)) := Lib.hid fun b => hown.alloc _
  have hlt := lt_of_block h
  have c2 : w.cell? ⟨D, 2, none⟩ = some a.inter := h.cell 2
  have c3 : w.cell? ⟨D, 3, none⟩ = some a.wrong := h.cell 3
  rw [hw] at c3
  have f2 := h.free 2
  have hd : decide ((T.length : Int) < 2) = true := decide_eq_true (by omega)
  have hdi : (T.length : Int) < 2 := by omega
  generalize a.inter = vi at *
  subst hv0
  generalize Lib.byteCells T = TL at *
  clear h hown hw
  go_enter Tryd.func58, Tryd.ntmps58
  go_wp2_with (at_builtin; go_must (refine wpList_append_own_at _ rfl _ _ 22 rfl (D + 1) 5 i0 (.int .u8 0) 1 1 Tryd.underlying22 hi0 hz0 hz1 hz2 rfl (by decide) (.slice A0 T.length c0) T.length TL rfl (HOWN.out _) ⟨w.heap.size, 0, none⟩ 1 1 [.int .u8 x.toNat] rfl rfl (news1 _ _ _) (by simp [Value.oneCell']) (by unfold maxLen; omega) (by omega) (by simp; omega) ?_; intro v2 w5 hown2 hgrow2 _ hat2; have hat2 := hat_size hat2; obtain ⟨A5, c5, rfl, _⟩ := own_form hown2; obtain ⟨hc5, hf5, hp5⟩ := HEND.out w5 _ hgrow2 hown2 hat2; have HP5 := Lib.hid hp5; clear hown2 hgrow2 hp5 hat2))
  go_end0
  exact HP5.out

end Go.Proofs.YtmmkcfjncpcabaaDoor
