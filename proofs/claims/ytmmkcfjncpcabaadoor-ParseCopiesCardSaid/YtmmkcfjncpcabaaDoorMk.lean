/- The walks of tellString's silent ways. -/
import Derived.Test.YtmmkcfjncpcabaaDoorMj
namespace Go.Proofs.YtmmkcfjncpcabaaDoor
open Go.RowKit

set_option maxRecDepth 100000 in
set_option maxHeartbeats 2000000 in
theorem string_wrong (D : Nat) (a : PV) (w : World) (h : PB w D a) (hw : a.wrong = .bool true) :
    Calls Tryd.prog 35 #[.pointer (some ⟨D, 0, none⟩)] w (fun e w' => e = .returned (.tuple #[]) ∧ Below w.heap.size w w') := by
  have c3 : w.cell? ⟨D, 3, none⟩ = some a.wrong := h.cell 3
  have hlt := lt_of_block h
  rw [hw] at c3
  clear h hw
  go_enter Tryd.func35, Tryd.ntmps35
  go_wp2
  (try simp only [Exit.inBlock, Exit.then])
  refine bodyPost_ret (results_none rfl _ _ _) rfl ?_
  exact ⟨rfl, by first | exact Below.refl _ _ | exact (Below.refl _ _).alloc (Nat.le_refl _) _⟩

set_option maxRecDepth 100000 in
set_option maxHeartbeats 2000000 in
theorem string_state (D : Nat) (a : PV) (st : Int) (w : World) (h : PB w D a) (hw : a.wrong = .bool false) (hs : a.state = .int .i64 st) (h3 : ¬ st = 3) (h4 : ¬ st = 4) :
    Calls Tryd.prog 35 #[.pointer (some ⟨D, 0, none⟩)] w (fun e w' => e = .returned (.tuple #[]) ∧ Below w.heap.size w w') := by
  have c3 : w.cell? ⟨D, 3, none⟩ = some a.wrong := h.cell 3
  have c7 : w.cell? ⟨D, 7, none⟩ = some a.state := h.cell 7
  have hlt := lt_of_block h
  rw [hw] at c3
  rw [hs] at c7
  have n3 : (st == 3) = false := by simpa using h3
  have n4 : (st == 4) = false := by simpa using h4
  clear h hw hs h3 h4
  go_enter Tryd.func35, Tryd.ntmps35
  go_wp2
  (try simp only [Exit.inBlock, Exit.then])
  refine bodyPost_ret (results_none rfl _ _ _) rfl ?_
  exact ⟨rfl, by first | exact Below.refl _ _ | exact (Below.refl _ _).alloc (Nat.le_refl _) _⟩

set_option maxRecDepth 100000 in
set_option maxHeartbeats 2000000 in
theorem string_none (D : Nat) (a : PV) (w : World) (h : PB w D a) (hw : a.wrong = .bool false) (hs : a.state = .int .i64 3) (hl : a.last = .int .u8 0) :
    Calls Tryd.prog 35 #[.pointer (some ⟨D, 0, none⟩)] w (fun e w' => e = .returned (.tuple #[]) ∧ Below w.heap.size w w') := by
  have c3 : w.cell? ⟨D, 3, none⟩ = some a.wrong := h.cell 3
  have c7 : w.cell? ⟨D, 7, none⟩ = some a.state := h.cell 7
  have c4 : w.cell? ⟨D, 4, none⟩ = some a.last := h.cell 4
  have hlt := lt_of_block h
  rw [hw] at c3
  rw [hs] at c7
  rw [hl] at c4
  clear h hw hs hl
  go_enter Tryd.func35, Tryd.ntmps35
  go_wp2
  (try simp only [Exit.inBlock, Exit.then])
  refine bodyPost_ret (results_none rfl _ _ _) rfl ?_
  exact ⟨rfl, by first | exact Below.refl _ _ | exact (Below.refl _ _).alloc (Nat.le_refl _) _⟩

end Go.Proofs.YtmmkcfjncpcabaaDoor
