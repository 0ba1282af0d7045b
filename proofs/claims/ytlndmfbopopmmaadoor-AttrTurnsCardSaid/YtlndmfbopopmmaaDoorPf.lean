/- The walks of Parse's outer function, of pieces with it, and of Parse. -/
import Derived.Test.YtlndmfbopopmmaaDoorPe
import Derived.Test.YtlndmfbopopmmaaDoorPb
namespace Go.Proofs.YtlndmfbopopmmaaDoor
open Go.RowKit

/-- The variable of the groups lies in block lb. -/
structure OI (w0 W : World) (lb : Nat) (L : List (List Int)) (vl : Value) : Prop where
  below : Below lb w0 W
  cell : W.heap[lb]? = some (.cells #[vl] 28 (0, 0))
  own : ∃ vals, W.ownsRow (lb + 1) 40 1 vl L.length vals ∧ RW W (lb + 1) W.heap.size L vals
theorem OI.past {w0 W W' : World} {lb : Nat} {L : List (List Int)} {vl : Value} (h : OI w0 W lb L vl) (hb : Below W.heap.size W W') : OI w0 W' lb L vl := by
  obtain ⟨vals, h1, h2⟩ := h.own
  exact ⟨h.below.trans (hb.mono (Nat.le_of_lt (lt_of_block h.cell))), (hb.block lb (lt_of_block h.cell)).trans h.cell, vals, own_past h1 hb, (h2.past hb).mono hb.size⟩
theorem belA' {a w : World} {B : Nat} (h : Below B a w) (hB : B < w.heap.size) {o : Obj} : Below B a (w.alloc o) := h.alloc (Nat.le_of_lt hB) _
theorem alloc_block {w : World} {k : Nat} {o o' : Obj} (h : w.heap[k]? = some o) : (w.alloc o').heap[k]? = some o := (Below.heap_alloc w o' k (lt_of_block h)).trans h
theorem rw_alloc {w : World} {B : Nat} {L : List (List Int)} {vals : List Value} (h : RW w B w.heap.size L vals) {o : Obj} : RW (w.alloc o) B (w.alloc o).heap.size L vals := (h.past (belA (Below.refl _ _) o)).mono (by simp)
theorem ne_iii : 28 ≠ 3 := by decide
theorem kept_type {w w' : World} {B : Nat} {e t : TypeId} {z n : Nat} {v : Value} {xs : List Value} {g : Nat} {cs : Array Value} {fr : Nat × Nat} (h : w.ownsRow B e z v n xs) (hg : w.grownBy w' (some g)) (ht : w.heap[g]? = some (.cells cs t fr)) (hne : t ≠ e) : w'.ownsRow B e z v n xs :=
  h.kept hg (by
    cases hv : v.ownBlock with
    | none => exact .inl rfl
    | some b =>
      refine .inr (fun e2 => ?_)
      obtain ⟨c1, h1⟩ := own_type h hv
      injection e2 with e2
      subst e2
      rw [ht] at h1
      simp at h1
      exact hne h1.2.1)
theorem RW.keptO {w w' : World} {B C B' : Nat} {L : List (List Int)} {vals : List Value} {v : Value} {n : Nat} {xs : List Value} (h : RW w B C L vals) (ho : w.ownsRow B' 40 1 v n xs) (hg : w.grownBy w' v.ownBlock) : RW w' B C L vals := by
  cases hv : v.ownBlock with
  | none =>
    rw [hv] at hg
    exact h.keptC hg (fun g e => by cases e)
  | some g =>
    rw [hv] at hg
    obtain ⟨c1, h1⟩ := own_type ho hv
    exact h.keptT hg h1 ne_ii
theorem OI.grow {w0 W w5 : World} {lb : Nat} {L : List (List Int)} {vl vg v2 : Value} {xs : List Int} {vals : List Value} (hb : Below lb w0 W) (hc : W.heap[lb]? = some (.cells #[vl] 28 (0, 0))) (ho : W.ownsRow (lb + 1) 40 1 vl L.length vals) (hr : RW W (lb + 1) W.heap.size L vals) (hgr : W.ownsRow (lb + 1) 3 1 vg xs.length (xs.map (Value.int .i64)))
    (hg : W.grownBy w5 vl.ownBlock) (h2 : w5.ownsRow (lb + 1) 40 1 v2 (L.length + 1) (vals ++ [vg])) :
    w5.cell? ⟨lb, 0, none⟩ = some vl ∧ w5.frozen? ⟨lb, 0, none⟩ = false ∧ OI w0 (w5.setCell ⟨lb, 0, none⟩ v2) lb (L ++ [xs]) v2 := by
  have hlt := lt_of_block hc
  have hne : some lb ≠ vl.ownBlock := fun e => by have := (ho.lt lb e.symm).1; omega
  have hc5 : w5.heap[lb]? = some (.cells #[vl] 28 (0, 0)) := (hg.block lb hlt hne).trans hc
  have hb5 : Below lb w0 w5 := hb.grown hg (Nat.le_of_lt hlt) (fun k e => by have := (ho.lt k e).1; omega)
  have hr5 := (hr.keptO ho hg).mono hg.size
  have hg5 : w5.ownsRow (lb + 1) 3 1 vg xs.length (xs.map (Value.int .i64)) := by
    cases hv : vl.ownBlock with
    | none =>
      rw [hv] at hg
      exact hgr.kept hg (by cases vg.ownBlock <;> simp)
    | some g =>
      rw [hv] at hg
      obtain ⟨c1, h1⟩ := own_type ho hv
      exact kept_type hgr hg h1 ne_ii
  have hs : w5.grownBy (w5.setCell ⟨lb, 0, none⟩ v2) (some lb) := ⟨rfl, rfl, rfl, by simp, fun k _ hne => heap_setCell_other w5 ⟨lb, 0, none⟩ k v2 (fun e => hne (by rw [e]))⟩
  refine ⟨cell_of_one hc5, free_of_one hc5, hb5.setCell (p := ⟨lb, 0, none⟩) (Nat.le_refl _) _, one_setCell hc5, vals ++ [vg], ?_, ?_⟩
  · rw [List.length_append]
    exact h2.kept hs (.inr (fun e => by have := (h2.lt lb e).1; omega))
  · have h := (hr5.snoc hg5 (fun b hb => (hg5.lt b hb).2)).keptT hs hc5 ne_iii
    exact h.mono (by simp)
/-- The first eight values of a group. -/
def GV (g : List UInt8) : List Int := ((splitB 58 g).take 8).map numZ

def CloPost (l : List UInt8) (w0 : World) (lb : Nat) (L : List (List Int)) (e : Ending) (w' : World) : Prop := ∃ v', e = .returned (.tuple #[]) ∧ OI w0 w' lb (L ++ [GV l]) v'
def piecesOut_anyPost (l : List UInt8) (w0 : World) (gb : Nat) (e : Ending) (w' : World) : Prop := ∃ v', e = .returned (.tuple #[]) ∧ OI w0 w' gb (((splitB 59 l).take 32).map GV) v'
theorem GZ_HZ (l : List UInt8) : ((splitB 59 l).take 32).map GV = HZ l := by
  unfold HZ GZ GV
  rw [← List.map_take, List.map_map]
  apply List.map_congr_left
  intro g _
  simp
theorem dropWhile_nil {p : UInt8 → Bool} : ∀ {l : List UInt8}, l.dropWhile p = [] → ∀ x ∈ l, p x = true
  | [], _, x, hx => by simp at hx
  | y :: r, h, x, hx => by
    rw [List.dropWhile_cons] at h
    by_cases hy : p y = true
    · rw [if_pos hy] at h
      rcases List.mem_cons.1 hx with rfl | hx
      · exact hy
      · exact dropWhile_nil h x hx
    · rw [if_neg hy] at h
      simp at h
theorem dropWhile_all {p : UInt8 → Bool} : ∀ {l : List UInt8}, (∀ x ∈ l, p x = true) → l.dropWhile p = []
  | [], _ => rfl
  | y :: r, h => by
    rw [List.dropWhile_cons, if_pos (h y List.mem_cons_self)]
    exact dropWhile_all fun x hx => h x (List.mem_cons_of_mem _ hx)
def headCs : List UInt8 := [48, 49, 50, 51, 52, 53, 54, 55, 56, 57, 59, 58]
theorem head_contains : ∀ x : UInt8, headCs.contains x = headB x := by
  intro x
  have h : ∀ n : Fin 256, headCs.contains (UInt8.ofNat n) = headB (UInt8.ofNat n) := by decide +kernel
  have := h ⟨x.toNat, x.toNat_lt⟩
  simpa using this
theorem trim_head (l : List UInt8) : (Lib.trimS l headCs = []) ↔ headL l = true := by
  have hp : (headCs.contains ·) = headB := funext head_contains
  unfold Lib.trimS Lib.trimLeftS Lib.trimRightS headL
  rw [hp]
  constructor
  · intro h
    have h1 := dropWhile_nil h
    by_cases hz : l.reverse.dropWhile headB = []
    · have h2 := dropWhile_nil hz
      exact List.all_eq_true.2 fun x hx => h2 x (by simpa using hx)
    · exfalso
      have hd : ∀ (m : List UInt8), m.dropWhile headB ≠ [] → ∃ x ∈ m.dropWhile headB, headB x = false := by
        intro m hm
        have := List.head_dropWhile_not headB hm
        exact ⟨_, List.head_mem hm, by simpa using this⟩
      obtain ⟨x, hx, hx2⟩ := hd _ hz
      have := h1 x (by simpa using hx)
      rw [hx2] at this
      simp at this
  · intro h
    have h2 := List.all_eq_true.1 h
    rw [dropWhile_all (l := l.reverse) (fun x hx => h2 x (by simpa using hx))]
    rfl

end Go.Proofs.YtlndmfbopopmmaaDoor
