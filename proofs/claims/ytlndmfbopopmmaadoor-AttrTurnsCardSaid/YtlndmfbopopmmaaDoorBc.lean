/- The walk of the document's extended. -/
import Derived.Test.YtlndmfbopopmmaaDoorBb
namespace Go.Proofs.YtlndmfbopopmmaaDoor
open Go.RowKit

/-- The color that 38 or 48 means, whether there is one, and how many groups are done with. -/
def extP (g : List Int) (t : List (List Int)) : (Int × Int) × Bool × Nat :=
  if 1 < g.length then
    if g[1]?.getD 0 = 5 ∧ g.length = 3 ∧ g[2]?.getD 0 < 256 then ((1, most0Z (g[2]?.getD 0)), true, 1)
    else if g[1]?.getD 0 = 2 ∧ (g.length = 5 ∨ g.length = 6) ∧ g[g.length - 1]?.getD 0 < 256 ∧ g[g.length - 2]?.getD 0 < 256 ∧ g[g.length - 3]?.getD 0 < 256 then ((2, 65536 * most0Z (g[g.length - 3]?.getD 0) + 256 * most0Z (g[g.length - 2]?.getD 0) + most0Z (g[g.length - 1]?.getD 0)), true, 1)
    else ((0, 0), false, 1)
  else if atZ t 0 = 5 then ((1, atZ t 1), decide (1 < t.length) && decide (atZ t 1 < 256), 3)
  else if atZ t 0 = 2 then ((2, 65536 * atZ t 1 + 256 * atZ t 2 + atZ t 3), decide (1 < t.length) && (decide (2 < t.length) && (decide (3 < t.length) && (decide (atZ t 1 < 256) && (decide (atZ t 2 < 256) && decide (atZ t 3 < 256))))), 5)
  else ((0, 0), false, 2)
def ExtPost (g : List Int) (t : List (List Int)) (i : Nat) (w : World) (e : Ending) (w' : World) : Prop := e = .returned (.tuple #[.agg #[.int .i64 (extP g t).1.1, .int .i64 (extP g t).1.2], .bool (extP g t).2.1, .int .i64 ((i + (extP g t).2.2 : Nat) : Int)]) ∧ Below w.heap.size w w'
/-- A group lies there. -/
def GAt (w : World) (br offr : Nat) (g : List Int) : Prop := ∀ W, Below w.heap.size w W → ∀ k, k < g.length → W.cell? ⟨br, offr + k, none⟩ = some (.int .i64 (g[k]?.getD 0))

set_option maxRecDepth 100000 in
set_option maxHeartbeats 4000000 in
theorem ext_five (b off n c i br offr cr : Nat) (x z : Int) (t : List (List Int)) (hi : i < n) (hi63 : n ≤ 1000000) (w : World)
    (hc : ∀ W, Below w.heap.size w W → W.cell? ⟨b, off + i, none⟩ = some (.slice (some ⟨br, offr, none⟩) 3 cr)) (hg : GAt w br offr [z, 5, x]) :
    Calls Tryd.prog 28 #[.slice (some ⟨b, off, none⟩) n c, .int .i64 i] w (ExtPost [z, 5, x] t i w) := by
  have hb1 := belA (Below.refl w.heap.size w) (.cells #[.int .i64 0, .int .i64 0] 23)
  have hcc := hc _ hb1
  have h1 : _ = some (Value.int .i64 5) := hg _ hb1 1 (by simp)
  have h2 : _ = some (Value.int .i64 x) := hg _ hb1 2 (by simp)
  have hii : (i : Int) < n := by omega
  have hi6 : (i : Int) ≤ 1000000 := by omega
  clear hc hg hi hb1
  unfold ExtPost
  by_cases hx2 : x < 256
  · have HE : Hid (extP [z, 5, x] t = ((1, most0Z x), true, 1)) := Lib.hid (by unfold extP; rw [if_pos (by simp), if_pos ⟨rfl, rfl, hx2⟩]; rfl)
    rw [HE.out]
    have HM := Lib.hid (fun W => most0_same x W)
    generalize most0Z x = p at *
    have hd2 : decide (x < 256) = true := decide_eq_true hx2
    go_enter Tryd.func28, Tryd.ntmps28
    go_wp2_with (go_at_call 36; (with_reducible refine (HM.out _).mono ?_); rintro e w3 ⟨rfl, rfl⟩)
    exact bodyPost_ret (v := .tuple #[.agg #[.int .i64 1, .int .i64 p], .bool true, .int .i64 ((i + 1 : Nat) : Int)]) (by simp [results, Tryd.results28, go_sem]) rfl ⟨rfl, belA (Below.refl _ _) _⟩
  · have HE : Hid (extP [z, 5, x] t = ((0, 0), false, 1)) := Lib.hid (by unfold extP; rw [if_pos (by simp), if_neg (fun h => hx2 h.2.2), if_neg (fun h => by have := h.1; simp at this)])
    rw [HE.out]
    have hd2 : decide (x < 256) = false := decide_eq_false hx2
    clear hx2
    go_enter Tryd.func28, Tryd.ntmps28
    go_wp2
    exact bodyPost_ret (v := .tuple #[.agg #[.int .i64 0, .int .i64 0], .bool false, .int .i64 ((i + 1 : Nat) : Int)]) (by simp [results, Tryd.results28, go_sem]) rfl ⟨rfl, belA (Below.refl _ _) _⟩

end Go.Proofs.YtlndmfbopopmmaaDoor
