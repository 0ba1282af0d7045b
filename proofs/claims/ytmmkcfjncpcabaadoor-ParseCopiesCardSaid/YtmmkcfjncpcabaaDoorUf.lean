/- The walks of the utf laws: awake, UtfNone. -/
import Derived.Test.YtmmkcfjncpcabaaDoorUe
import Derived.Test.YtmmkcfjncpcabaaDoorUs
namespace Go.Proofs.YtmmkcfjncpcabaaDoor
open Go.RowKit Go.Shelf

def intsOf (l : List Nat) : List Int := l.map fun (r : Nat) => (r : Int)
theorem intsOf_enc (l : List Nat) : (intsOf l).map (Value.int .i32) = l.map encN := by unfold intsOf; rw [List.map_map]; rfl
theorem own_form_u {w : World} {base : Nat} {e : TypeId} {size : Nat} {v : Value} {k : Nat} {xs : List Value} (h : w.ownsRow base e size v k xs) :
    ∃ A c, v = .slice A k c ∧ (0 < k → ∃ g, A = some ⟨g, 0, none⟩) := by
  rcases h.2 with ⟨rfl, rfl⟩ | ⟨g, cap, cur, rfl, _⟩
  · exact ⟨none, 0, rfl, fun h => by omega⟩
  · exact ⟨_, cap, rfl, fun _ => ⟨g, rfl⟩⟩
/-- A row of the call's own reads as its numbers. -/
theorem RS.of_own {w : World} {base n c : Nat} {A : Option Addr} {xs : List Int} (h : w.ownsRow base 21 1 (.slice A n c) n (xs.map (Value.int .i32))) : RS w w.heap.size A xs := fun hn => by
  have hl : xs.length = n := by have := h.1; simpa using this
  obtain ⟨A', c', e, hA⟩ := own_form_u h
  injection e with e1 _ _
  subst e1
  obtain ⟨g, rfl⟩ := hA (by rw [← hl]; exact List.length_pos_iff.2 hn)
  refine ⟨g, 0, rfl, (h.lt g rfl).2, fun k hk => ?_⟩
  rw [Nat.zero_add, h.cellAt k (by omega), List.getElem?_map, List.getElem?_eq_getElem hk]
  rfl
/-- What All answers, as Same takes it. -/
def AllRS (zs : List Nat) (w : World) (e : Ending) (w' : World) : Prop :=
  ∃ A c, e = .returned (.slice A (allL zs).length c) ∧ RS w' w'.heap.size A (intsOf (allL zs)) ∧ Below w.heap.size w w'
theorem bs_new (w : World) (zs : List Nat) (hz : ∀ z ∈ zs, z < 256) : BS (w.alloc (.cells (zs.map fun z => Value.int .u8 (z : Nat)).toArray 5)) (w.alloc (.cells (zs.map fun z => Value.int .u8 (z : Nat)).toArray 5)).heap.size (some ⟨w.heap.size, 0, none⟩) zs :=
  ⟨hz, fun _ => ⟨w.heap.size, 0, rfl, by simp, fun k hk => by
    refine (cell_of_row _ _ _ _ _ _ (heap_alloc_new w _)).trans ?_
    simp [hk]⟩⟩
theorem rs_new (w : World) (xs : List Int) : RS (w.alloc (.cells (xs.map (Value.int .i32)).toArray 21)) (w.alloc (.cells (xs.map (Value.int .i32)).toArray 21)).heap.size (some ⟨w.heap.size, 0, none⟩) xs := fun _ =>
  ⟨w.heap.size, 0, rfl, by simp, fun k hk => by
    refine (cell_of_row _ _ _ _ _ _ (heap_alloc_new w _)).trans ?_
    simp [hk]⟩
theorem aw1 : allL [226, 130, 65] = [65533, 65] := by decide
theorem aw2 : allL [240, 159, 152, 128] = [128512] := by decide

end Go.Proofs.YtmmkcfjncpcabaaDoor
