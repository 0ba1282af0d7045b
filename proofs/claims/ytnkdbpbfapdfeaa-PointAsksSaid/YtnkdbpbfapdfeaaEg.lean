/- Places in boxes; rows of shifts; what All answers; the laws ShiftAll, ShiftBack. -/
import Derived.Test.YtnkdbpbfapdfeaaEf
namespace Go.Proofs.Ytnkdbpbfapdfeaa
open Go.RowKit

/-- A place lies in block g. -/
def PB (W : World) (g : Nat) (a b : Int) : Prop := W.heap[g]? = some (.cells #[.int .i64 a, .int .i64 b] 30 (0, 0))
theorem PB.new (W : World) (a b : Int) : PB (W.alloc (.cells #[.int .i64 a, .int .i64 b] 30)) W.heap.size a b := heap_alloc_new W _
theorem PB.lt {W : World} {g : Nat} {a b : Int} (h : PB W g a b) : g < W.heap.size := (Array.getElem?_eq_some_iff.1 h).1
theorem PB.c0 {W : World} {g : Nat} {a b : Int} (h : PB W g a b) : W.cell? ⟨g, 0, none⟩ = some (.int .i64 a) := cell_of_row _ _ 0 _ _ _ h
theorem PB.c1 {W : World} {g : Nat} {a b : Int} (h : PB W g a b) : W.cell? ⟨g, 1, none⟩ = some (.int .i64 b) := cell_of_row _ _ 1 _ _ _ h
theorem PB.free {W : World} {g : Nat} {a b : Int} (h : PB W g a b) (k : Nat) : W.frozen? ⟨g, k, none⟩ = false := unfrozen_of h k
theorem PB.past {W W' : World} {g : Nat} {a b : Int} (h : PB W g a b) (hb : Below W.heap.size W W') : PB W' g a b := keep hb h
theorem PB.alloc {W : World} {g : Nat} {a b : Int} (h : PB W g a b) (o : Obj) : PB (W.alloc o) g a b := old1 h
theorem PB.set {W : World} {g : Nat} {a b : Int} (h : PB W g a b) (x y : Int) : PB ((W.setCell ⟨g, 0, none⟩ (.int .i64 x)).setCell ⟨g, 1, none⟩ (.int .i64 y)) g x y :=
  heap_setCell_same (W.setCell ⟨g, 0, none⟩ (.int .i64 x)) g 1 _ _ (.int .i64 y) (heap_setCell_same W g 0 _ _ (.int .i64 x) h)
theorem PB.other {W : World} {g d : Nat} {a b : Int} (h : PB W g a b) (k : Nat) (v : Value) (hne : g ≠ d) : PB (W.setCell ⟨d, k, none⟩ v) g a b :=
  (heap_setCell_other W ⟨d, k, none⟩ g v hne).trans h
theorem PB.drew {W : World} {g : Nat} {a b : Int} (h : PB W g a b) : PB W.drew g a b := h

/-- A slice of shifts reads as a list. -/
def RSh (W : World) (B : Nat) (A : Option Addr) (l : List (Int × Int × Int)) : Prop :=
  l ≠ [] → ∃ b off, A = some ⟨b, off, none⟩ ∧ b < B ∧ ∀ k, k < l.length → W.cell? ⟨b, off + k * 3, none⟩ = some (.int .i64 (l[k]?.getD (0, 0, 0)).1) ∧ W.cell? ⟨b, off + k * 3 + 1, none⟩ = some (.int .i64 (l[k]?.getD (0, 0, 0)).2.1) ∧ W.cell? ⟨b, off + k * 3 + 2, none⟩ = some (.int .i64 (l[k]?.getD (0, 0, 0)).2.2)
theorem RSh.past {W W' : World} {A : Option Addr} {l : List (Int × Int × Int)} (h : RSh W W.heap.size A l) (hb : Below W.heap.size W W') : RSh W' W'.heap.size A l := fun hne => by
  obtain ⟨b, off, e, hl, hc⟩ := h hne
  have hs := hb.size
  exact ⟨b, off, e, by omega, fun k hk => ⟨(hb.cell (p := ⟨b, off + k * 3, none⟩) hl).trans (hc k hk).1, (hb.cell (p := ⟨b, off + k * 3 + 1, none⟩) hl).trans (hc k hk).2.1, (hb.cell (p := ⟨b, off + k * 3 + 2, none⟩) hl).trans (hc k hk).2.2⟩⟩
theorem RSh.at {W W' : World} {A : Option Addr} {l : List (Int × Int × Int)} (h : RSh W W.heap.size A l) (hb : Below W.heap.size W W') (k : Nat) (hk : k < l.length) :
    ∃ b off a1 a2 a3, A = some ⟨b, off, none⟩ ∧ b < W.heap.size ∧ l[k]? = some (a1, a2, a3) ∧ W'.cell? ⟨b, off + k * 3, none⟩ = some (.int .i64 a1) ∧ W'.cell? ⟨b, off + k * 3 + 1, none⟩ = some (.int .i64 a2) ∧ W'.cell? ⟨b, off + k * 3 + 2, none⟩ = some (.int .i64 a3) := by
  obtain ⟨b, off, e, hl, hc⟩ := h (fun e => by rw [e] at hk; simp at hk)
  obtain ⟨h1, h2, h3⟩ := hc k hk
  rw [List.getElem?_eq_getElem hk] at h1 h2 h3 ⊢
  exact ⟨b, off, _, _, _, e, hl, rfl, (hb.cell (p := ⟨b, off + k * 3, none⟩) hl).trans h1, (hb.cell (p := ⟨b, off + k * 3 + 1, none⟩) hl).trans h2, (hb.cell (p := ⟨b, off + k * 3 + 2, none⟩) hl).trans h3⟩

def allZ (p : Int × Int) (l : List (Int × Int × Int)) : Int × Int := l.foldl (fun p s => moveZ p.1 p.2 s.1 s.2.1 s.2.2) p
theorem allZ_snoc (p : Int × Int) (l : List (Int × Int × Int)) (k : Nat) (a1 a2 a3 : Int) (h : l[k]? = some (a1, a2, a3)) : allZ p (l.take (k + 1)) = moveZ (allZ p (l.take k)).1 (allZ p (l.take k)).2 a1 a2 a3 := by
  obtain ⟨hk, e⟩ := List.getElem?_eq_some_iff.1 h
  rw [List.take_succ_eq_append_getElem hk, e]
  unfold allZ
  rw [List.foldl_append]
  rfl

end Go.Proofs.Ytnkdbpbfapdfeaa
