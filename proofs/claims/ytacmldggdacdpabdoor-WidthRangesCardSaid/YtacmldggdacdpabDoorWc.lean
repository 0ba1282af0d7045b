/- The walks of the document's answer for widths: in, Marks, Wides, Of. -/
import Derived.Test.YtacmldggdacdpabDoorWb
namespace Go.Proofs.YtacmldggdacdpabDoor
open Go.RowKit

def flatV (l : List (Int × Int)) : List Value := l.flatMap fun x => [.int .i32 x.1, .int .i32 x.2]
theorem flatV_at : ∀ (l : List (Int × Int)) (k : Nat), k < l.length → (flatV l)[k * 2]? = some (.int .i32 (l[k]?.getD (0, 0)).1) ∧ (flatV l)[k * 2 + 1]? = some (.int .i32 (l[k]?.getD (0, 0)).2)
  | [], k, h => absurd h (by simp)
  | x :: l, 0, _ => ⟨rfl, rfl⟩
  | x :: l, k + 1, h => by
    have := flatV_at l k (by simpa using h)
    have e1 : (k + 1) * 2 = k * 2 + 1 + 1 := by omega
    rw [e1]
    exact this
theorem tab_new (w : World) (l : List (Int × Int)) (t : TypeId) : Tab (w.alloc (.cells (flatV l).toArray t)) w.heap.size l :=
  ⟨by simp, fun k hk => by
    have h := flatV_at l k hk
    exact ⟨(cell_of_row _ _ _ _ _ _ (heap_alloc_new w _)).trans (by simpa using h.1), (cell_of_row _ _ _ _ _ _ (heap_alloc_new w _)).trans (by simpa using h.2)⟩⟩

theorem hasB_no {lo hi r : Int} (h : ¬ lo ≤ r) : hasB lo hi r = false := by simp [hasB]; omega
theorem hasB_no' {lo hi r : Int} (h : ¬ r ≤ hi) : hasB lo hi r = false := by simp [hasB]; omega
theorem hasB_yes {lo hi r : Int} (h : lo ≤ r) (h' : r ≤ hi) : hasB lo hi r = true := by simp [hasB, h, h']

set_option maxHeartbeats 400000 in
theorem marksFn_any (w : World) :
    Calls Tryd.prog 5 #[] w fun e w' => e = .returned (.slice (some ⟨w.heap.size, 0, none⟩) 38 38) ∧ Tab w' w.heap.size marksL ∧ Below w.heap.size w w' := by
  go_enter Tryd.func5, Tryd.ntmps5
  go_wp2
  go_ret
  exact ⟨rfl, tab_new w marksL 21, (Below.refl _ _).alloc (Nat.le_refl _) _⟩
set_option maxHeartbeats 400000 in
theorem widesFn_any (w : World) :
    Calls Tryd.prog 6 #[] w fun e w' => e = .returned (.slice (some ⟨w.heap.size, 0, none⟩) 44 44) ∧ Tab w' w.heap.size widesL ∧ Below w.heap.size w w' := by
  go_enter Tryd.func6, Tryd.ntmps6
  go_wp2
  go_ret
  exact ⟨rfl, tab_new w widesL 21, (Below.refl _ _).alloc (Nat.le_refl _) _⟩
/-- Both tables lie where the program's variables lie. -/
def WT (w : World) : Prop := Tab w 0 marksL ∧ Tab w 1 widesL
theorem WT.below {w w' : World} (h : WT w) (hb : Below w.heap.size w w') : WT w' := ⟨h.1.below hb h.1.1, h.2.below hb h.2.1⟩
theorem WT.from {w w' : World} {B : Nat} (h : WT w) (hb : Below B w w') (h0 : 2 ≤ B) : WT w' := ⟨h.1.below hb (by omega), h.2.below hb (by omega)⟩

theorem widthOf_any (r : Int) (w : World) (hT : WT w) :
    Calls Tryd.prog 8 #[.int .i32 r] w fun e w' => e = .returned (.int .i64 (ofZ r)) ∧ Below w.heap.size w w' :=
  of_any r w hT.1 hT.2
theorem ofZ_bd (r : Int) : -1 ≤ ofZ r ∧ ofZ r ≤ 2 := by
  unfold ofZ
  split
  · decide
  · split
    · decide
    · split
      · decide
      · split <;> decide

end Go.Proofs.YtacmldggdacdpabDoor
