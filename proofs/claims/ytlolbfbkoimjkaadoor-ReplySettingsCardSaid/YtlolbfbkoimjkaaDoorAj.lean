/- The walk of behind. -/
import Derived.Test.YtlolbfbkoimjkaaDoorAi
namespace Go.Proofs.YtlolbfbkoimjkaaDoor
open Go.RowKit

/-- A group's first value. -/
def hd0 (r : List Int) : Int := most0Z (r.headD 0)
def colorP (c : Int × Int) (kind : Int) (xs : List Int) : Int × Int := if partsOk xs = true then (kind, foldC xs) else c
set_option maxRecDepth 100000 in
theorem colorP_eq (c : Int × Int) (kind : Int) (xs : List Int) : colorOfV c.1 c.2 kind xs = .agg #[.int .i64 (colorP c kind xs).1, .int .i64 (colorP c kind xs).2] := by
  unfold colorOfV colorP
  split <;> rfl
def withinP (c : Int × Int) (xs : List Int) : Int × Int := if xs[1]?.getD 0 = 5 ∧ xs.length = 3 then colorP c 1 (xs.drop 2) else if xs[1]?.getD 0 = 2 ∧ (xs.length = 5 ∨ xs.length = 6) then colorP c 2 (xs.drop (xs.length - 3)) else c
set_option maxRecDepth 100000 in
theorem withinP_eq (c : Int × Int) (xs : List Int) : withinV c.1 c.2 xs = .agg #[.int .i64 (withinP c xs).1, .int .i64 (withinP c xs).2] := by
  unfold withinV withinP
  split
  · exact colorP_eq _ _ _
  · split
    · exact colorP_eq _ _ _
    · rfl
/-- Where the groups lie. -/
def GroupsAt (w : World) (b off : Nat) (L : List (List Int)) : Prop :=
  ∀ k, k < L.length → ∃ Ai ci, (L[k]?.getD []).length ≤ ci ∧ ∀ W, Below w.heap.size w W → W.cell? ⟨b, off + k, none⟩ = some (.slice Ai (L[k]?.getD []).length ci) ∧ RI W w.heap.size Ai (L[k]?.getD [])
set_option maxRecDepth 100000 in
theorem groups_at {w : World} {A : Option Addr} {L : List (List Int)} (h : RG w w.heap.size A L) (hne : L ≠ []) : ∃ b off, A = some ⟨b, off, none⟩ ∧ GroupsAt w b off L := by
  obtain ⟨b, off, rfl, hb, hc⟩ := h hne
  refine ⟨b, off, rfl, fun k hk => ?_⟩
  obtain ⟨Ai, ci, h1, h2, h3⟩ := hc k hk
  exact ⟨Ai, ci, h3, fun W hW => ⟨(hW.cell (p := ⟨b, off + k, none⟩) hb).trans h1, h2.below hW⟩⟩
/-- What the groups behind one that tells a color make of a color, and how many are done with. -/
def behindP (c : Int × Int) (L : List (List Int)) : (Int × Int) × Nat :=
  match L with
  | [] => (c, 0)
  | g :: t => if hd0 g = 5 then (if t.length < 1 then (c, t.length + 1) else (colorP c 1 ((t.take 1).map hd0), 2)) else if hd0 g = 2 then (if t.length < 3 then (c, t.length + 1) else (colorP c 2 ((t.take 3).map hd0), 4)) else (c, 1)
set_option maxRecDepth 100000 in
theorem res_cells {w w3 : World} {k0 n0 : Int} (hb : Below ((w.alloc (.cells #[.int .i64 k0, .int .i64 n0] 27)).alloc (.cells #[.int .i64 0, .int .i64 0] 27)).heap.size ((w.alloc (.cells #[.int .i64 k0, .int .i64 n0] 27)).alloc (.cells #[.int .i64 0, .int .i64 0] 27)) w3) :
    w3.cell? ⟨w.heap.size, 0, none⟩ = some (.int .i64 k0) ∧ w3.cell? ⟨w.heap.size, 1, none⟩ = some (.int .i64 n0) ∧ w3.cell? ⟨w.heap.size + 1, 0, none⟩ = some (.int .i64 0) ∧ w3.cell? ⟨w.heap.size + 1, 1, none⟩ = some (.int .i64 0) ∧ w3.frozen? ⟨w.heap.size + 1, 0, none⟩ = false ∧ w3.frozen? ⟨w.heap.size + 1, 1, none⟩ = false := by
  obtain ⟨hc, hf⟩ := bcell hb
  refine ⟨(hc _ _ (by simp <;> omega)).trans (by simp), (hc _ _ (by simp <;> omega)).trans (by simp), (hc _ _ (by simp <;> omega)).trans (by simp), (hc _ _ (by simp <;> omega)).trans (by simp), (hf _ _ (by simp <;> omega)).trans (by simp), (hf _ _ (by simp <;> omega)).trans (by simp)⟩
set_option maxRecDepth 100000 in
theorem res_below {w w3 : World} {v0 v1 : Value} (hb : Below w.heap.size w w3) : Below w.heap.size w ((w3.setCell ⟨w.heap.size + 1, 0, none⟩ v0).setCell ⟨w.heap.size + 1, 1, none⟩ v1) :=
  (hb.setCell (p := ⟨w.heap.size + 1, 0, none⟩) (Nat.le_succ _) _).setCell (p := ⟨w.heap.size + 1, 1, none⟩) (Nat.le_succ _) _
def BehPost (k0 n0 : Int) (L : List (List Int)) (w : World) (e : Ending) (w' : World) : Prop := e = .returned (.tuple #[.agg #[.int .i64 (behindP (k0, n0) L).1.1, .int .i64 (behindP (k0, n0) L).1.2], .int .i64 (behindP (k0, n0) L).2]) ∧ Below w.heap.size w w'

end Go.Proofs.YtlolbfbkoimjkaaDoor
