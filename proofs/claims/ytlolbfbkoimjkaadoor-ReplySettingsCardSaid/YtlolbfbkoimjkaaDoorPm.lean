/- The walk of Clean's function. -/
import Derived.Test.YtlolbfbkoimjkaaDoorPf
namespace Go.Proofs.YtlolbfbkoimjkaaDoor
open Go.RowKit

/-- The variable of the groups lies in block lb: D are done, P is the row that grows. -/
structure CI (w0 W : World) (lb : Nat) (D : List (List Int)) (P : List Int) (vl : Value) : Prop where
  below : Below lb w0 W
  cell : W.heap[lb]? = some (.cells #[vl] 33 (0, 0))
  own : (P = [] ∧ ∃ vals, W.ownsRow (lb + 1) 42 1 vl D.length vals ∧ RW W (lb + 1) W.heap.size D vals) ∨ (P ≠ [] ∧ ∃ C vals vc, PG W (lb + 1) C vl D vals P vc)
theorem CI.past {w0 W W' : World} {lb : Nat} {D : List (List Int)} {P : List Int} {vl : Value} (h : CI w0 W lb D P vl) (hb : Below W.heap.size W W') : CI w0 W' lb D P vl := by
  refine ⟨h.below.trans (hb.mono (Nat.le_of_lt (lt_of_block h.cell))), (hb.block lb (lt_of_block h.cell)).trans h.cell, ?_⟩
  rcases h.own with ⟨h0, vals, h1, h2⟩ | ⟨h0, C, vals, vc, h1⟩
  · exact .inl ⟨h0, vals, own_past h1 hb, (h2.past hb).mono hb.size⟩
  · exact .inr ⟨h0, C, vals, vc, h1.past hb⟩
theorem CI.step {w0 W : World} {lb : Nat} {D : List (List Int)} {P : List Int} {vl : Value} (h : CI w0 W lb D P vl) (hP : P ≠ []) : CI w0 W lb (D ++ [P]) [] vl := by
  refine ⟨h.below, h.cell, .inl ⟨rfl, ?_⟩⟩
  rcases h.own with ⟨h0, _⟩ | ⟨_, C, vals, vc, h1⟩
  · exact absurd h0 hP
  · exact ⟨vals ++ [vc], by rw [List.length_append]; exact h1.outer, h1.all⟩
/-- Behind append of a row that isn't there yet, and its store. -/
theorem ci_new {w0 W w5 : World} {lb : Nat} {D : List (List Int)} {vl v2 : Value} {vals : List Value} (hb : Below lb w0 W) (hc : W.heap[lb]? = some (.cells #[vl] 33 (0, 0))) (ho : W.ownsRow (lb + 1) 42 1 vl D.length vals) (hr : RW W (lb + 1) W.heap.size D vals) (hg : W.grownBy w5 vl.ownBlock) (h2 : w5.ownsRow (lb + 1) 42 1 v2 (D.length + 1) (vals ++ [.slice none 0 0])) :
    w5.cell? ⟨lb, 0, none⟩ = some vl ∧ w5.frozen? ⟨lb, 0, none⟩ = false ∧ Below lb w0 (w5.setCell ⟨lb, 0, none⟩ v2) ∧ (w5.setCell ⟨lb, 0, none⟩ v2).heap[lb]? = some (.cells #[v2] 33 (0, 0)) ∧ PG (w5.setCell ⟨lb, 0, none⟩ v2) (lb + 1) W.heap.size v2 D vals [] (.slice none 0 0) ∧ W.heap.size ≤ (w5.setCell ⟨lb, 0, none⟩ v2).heap.size := by
  have hlt := lt_of_block hc
  have hne : some lb ≠ vl.ownBlock := fun e => by have := (ho.lt lb e.symm).1; omega
  have hc5 : w5.heap[lb]? = some (.cells #[vl] 33 (0, 0)) := (hg.block lb hlt hne).trans hc
  have hb5 : Below lb w0 w5 := hb.grown hg (Nat.le_of_lt hlt) (fun k e => by have := (ho.lt k e).1; omega)
  have hr5 := hr.keptO ho hg
  have hs : w5.grownBy (w5.setCell ⟨lb, 0, none⟩ v2) (some lb) := ⟨rfl, rfl, rfl, by simp, fun k _ hne => heap_setCell_other w5 ⟨lb, 0, none⟩ k v2 (fun e => hne (by rw [e]))⟩
  exact ⟨cell_of_one hc5, free_of_one hc5, hb5.setCell (p := ⟨lb, 0, none⟩) (Nat.le_refl _) _, one_setCell hc5, ⟨h2.kept hs (.inr (fun e => by have := (h2.lt lb e).1; omega)), hr5.keptT hs hc5 ne_iii, World.ownsRow_nil _ _ _ _, hlt⟩, by simpa using hg.size⟩
/-- Behind append to the row that grows, and its store into the row's place. -/
theorem ci_grow {w0 W w5 : World} {lb C g c : Nat} {D : List (List Int)} {P P2 : List Int} {vals : List Value} {vc v2 : Value} (hb : Below lb w0 W) (hc : W.heap[lb]? = some (.cells #[.slice (some ⟨g, 0, none⟩) (D.length + 1) c] 33 (0, 0))) (hp : PG W (lb + 1) C (.slice (some ⟨g, 0, none⟩) (D.length + 1) c) D vals P vc) (hg : W.grownBy w5 vc.ownBlock) (h2 : w5.ownsRow C 3 1 v2 P2.length (P2.map (Value.int .i64))) (hP2 : P2 ≠ []) :
    w5.cell? ⟨lb, 0, none⟩ = some (.slice (some ⟨g, 0, none⟩) (D.length + 1) c) ∧ w5.cell? ⟨g, D.length, none⟩ = some vc ∧ w5.frozen? ⟨g, D.length, none⟩ = false ∧ CI w0 (w5.setCell ⟨g, D.length, none⟩ v2) lb D P2 (.slice (some ⟨g, 0, none⟩) (D.length + 1) c) := by
  have hlt := lt_of_block hc
  obtain ⟨h1, h3, h4, _⟩ := hp.grow hg h2
  have hne : some lb ≠ vc.ownBlock := fun e => by have := (hp.cur.lt lb e.symm).1; have := hp.le; omega
  have hc5 := (hg.block lb hlt hne).trans hc
  have hgB : lb + 1 ≤ g := (hp.outer.lt g rfl).1
  have hb5 : Below lb w0 w5 := hb.grown hg (Nat.le_of_lt hlt) (fun k e => by have := (hp.cur.lt k e).1; have := hp.le; omega)
  exact ⟨cell_of_one hc5, h1, h3, hb5.setCell (p := ⟨g, D.length, none⟩) (by show lb ≤ g; omega) _, (heap_setCell_other w5 ⟨g, D.length, none⟩ lb v2 (by show lb ≠ g; omega)).trans hc5, .inr ⟨hP2, C, vals, v2, h4⟩⟩
def CPost (w0 : World) (lb : Nat) (D : List (List Int)) (P : List Int) (e : Ending) (w' : World) : Prop := ∃ v', e = .returned (.tuple #[]) ∧ CI w0 w' lb D P v'

end Go.Proofs.YtlolbfbkoimjkaaDoor
