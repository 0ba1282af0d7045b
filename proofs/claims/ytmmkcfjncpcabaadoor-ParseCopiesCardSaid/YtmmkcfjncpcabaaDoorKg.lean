/- Rows of rows of numbers in memory; the walk of the reference's Same. -/
import Derived.Test.YtmmkcfjncpcabaaDoorKi
import Derived.Deep.RegionHeld3
namespace Go.Proofs.YtmmkcfjncpcabaaDoor
open Go.RowKit

theorem Tryd.infoInts : (Tryd.prog.info? 48).map (fun i => (i.zero, i.size, i.bytes)) = some (some (.slice none 0 0), 1, 24) := by kernel_rfl
/-- The slice value '.slice A L.length c' reads as rows of numbers; they lie below block B. -/
def RG (w : World) (B : Nat) (A : Option Addr) (L : List (List Int)) : Prop :=
  L ≠ [] → ∃ b off, A = some ⟨b, off, none⟩ ∧ b < B ∧ ∀ i, i < L.length → ∃ Ai ci, w.cell? ⟨b, off + i, none⟩ = some (.slice Ai (L[i]?.getD []).length ci) ∧ RI w B Ai (L[i]?.getD []) ∧ (L[i]?.getD []).length ≤ ci
theorem RG.below {w w' : World} {B : Nat} {A : Option Addr} {L : List (List Int)} (h : RG w B A L) (hb : Below B w w') : RG w' B A L := fun hn => by
  obtain ⟨b, off, e, hlt, hc⟩ := h hn
  refine ⟨b, off, e, hlt, fun i hi => ?_⟩
  obtain ⟨Ai, ci, h1, h2, h3⟩ := hc i hi
  exact ⟨Ai, ci, (hb.cell (p := ⟨b, off + i, none⟩) hlt).trans h1, h2.below hb, h3⟩
theorem RG.more {w : World} {B B' : Nat} {A : Option Addr} {L : List (List Int)} (h : RG w B A L) (hB : B ≤ B') : RG w B' A L := fun hn => by
  obtain ⟨b, off, e, hlt, hc⟩ := h hn
  refine ⟨b, off, e, Nat.lt_of_lt_of_le hlt hB, fun i hi => ?_⟩
  obtain ⟨Ai, ci, h1, h2, h3⟩ := hc i hi
  exact ⟨Ai, ci, h1, h2.more hB, h3⟩
theorem RG.past {w w' : World} {A : Option Addr} {L : List (List Int)} (h : RG w w.heap.size A L) (hb : Below w.heap.size w w') : RG w' w'.heap.size A L := (h.below hb).more hb.size

def sameL (xs ys : List (List Int)) : Bool := decide (xs = ys)
theorem sameL_none {xs ys : List (List Int)} (h : xs.length ≠ ys.length) : sameL xs ys = false := decide_eq_false fun e => h (by rw [e])
theorem sameL_some {xs ys : List (List Int)} (k : Nat) (h : xs[k]?.getD [] ≠ ys[k]?.getD []) : sameL xs ys = false := decide_eq_false fun e => h (by rw [e])
theorem sameL_all {xs ys : List (List Int)} (k : Nat) (h : xs.take k = ys.take k) (h1 : xs.length ≤ k) (h2 : ys.length ≤ k) : sameL xs ys = true :=
  decide_eq_true (by rw [← List.take_of_length_le h1, h, List.take_of_length_le h2])
theorem take_snocL {α : Type} (xs : List α) (k : Nat) (d : α) (h : k < xs.length) : xs.take (k + 1) = xs.take k ++ [xs[k]?.getD d] := by
  rw [List.take_succ_eq_append_getElem h, List.getElem?_eq_getElem h]; rfl
theorem take_sameL {xs ys : List (List Int)} (k : Nat) (h : xs.take k = ys.take k) (h1 : k < xs.length) (h2 : k < ys.length) (e : xs[k]?.getD [] = ys[k]?.getD []) : xs.take (k + 1) = ys.take (k + 1) := by
  rw [take_snocL xs k [] h1, take_snocL ys k [] h2, h, e]
theorem two_step {wr W W' : World} {a a' : Addr} {v v' : Value} (h : (W.cell? a = some v ∧ W.cell? a' = some v') ∧ a.block < W.heap.size ∧ a'.block < W.heap.size ∧ Below wr.heap.size wr W) (hb : Below W.heap.size W W') :
    (W'.cell? a = some v ∧ W'.cell? a' = some v') ∧ a.block < W'.heap.size ∧ a'.block < W'.heap.size ∧ Below wr.heap.size wr W' :=
  ⟨⟨(hb.cell h.2.1).trans h.1.1, (hb.cell h.2.2.1).trans h.1.2⟩, Nat.lt_of_lt_of_le h.2.1 hb.size, Nat.lt_of_lt_of_le h.2.2.1 hb.size, bel0 h.2.2.2 hb⟩
theorem two_below {wr W : World} {a a' : Addr} {v v' : Value} (h : (W.cell? a = some v ∧ W.cell? a' = some v') ∧ a.block < W.heap.size ∧ a'.block < W.heap.size ∧ Below wr.heap.size wr W) : Below wr.heap.size wr W := h.2.2.2

end Go.Proofs.YtmmkcfjncpcabaaDoor
