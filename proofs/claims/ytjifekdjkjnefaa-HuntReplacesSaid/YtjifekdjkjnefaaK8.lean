/- The walk of hunt.Longest. -/
import Derived.Test.YtjifekdjkjnefaaK4
import Derived.Deep.DeepCutAuto
namespace Go.Proofs.Ytjifekdjkjnefaa
open Go.RowKit

/-- One hit more: what is the longest so far, and where it ends. -/
def lgS (Ns : List (List UInt8)) (s : List (Nat × Nat) × Nat) (x : Nat × Nat) : List (Nat × Nat) × Nat :=
  if s.2 ≤ x.1 then (s.1 ++ [x], x.1 + (nAt Ns x.2).length)
  else if x.1 = (s.1.getLast?.getD (0, 0)).1 ∧ s.2 < x.1 + (nAt Ns x.2).length then (s.1.dropLast ++ [x], x.1 + (nAt Ns x.2).length)
  else s
def lgL (Ns : List (List UInt8)) (R : List (Nat × Nat)) : List (Nat × Nat) := (R.foldl (lgS Ns) ([], 0)).1
theorem htV_at' : ∀ (L : List (Nat × Nat)) (k : Nat), k < L.length → (htV L)[k * 2]? = some (.int .i64 ((L[k]?.getD (0, 0)).1 : Nat)) ∧ (htV L)[k * 2 + 1]? = some (.int .i64 ((L[k]?.getD (0, 0)).2 : Nat))
  | [], k, h => by simp at h
  | x :: t, 0, _ => ⟨rfl, rfl⟩
  | x :: t, k + 1, h => by
    have := htV_at' t k (by simpa using h)
    rw [show (k + 1) * 2 = k * 2 + 1 + 1 by omega]
    exact this
theorem htV_len' : ∀ L : List (Nat × Nat), (htV L).length = L.length * 2
  | [] => rfl
  | x :: t => by
    have := htV_len' t
    show (htV t).length + 1 + 1 = _
    rw [this, List.length_cons]
    omega
/-- What lies in memory while the longest hits are gathered. -/
structure LR (w W : World) (B : Nat) (D : List (Nat × Nat)) (A : Option Addr) (m c : Nat) (R : List (Nat × Nat)) (x : Nat × Nat) : Prop where
  q : HQ w w.heap.size R W
  box : W.heap[B]? = some (.cells #[.int .i64 (x.1 : Nat), .int .i64 (x.2 : Nat)] 33 (0, 0))
  le : w.heap.size ≤ B
  len : m = D.length
  own : W.ownsRow w.heap.size 33 2 (.slice A m c) m (htV D)
  ne : (Value.slice A m c).ownBlock ≠ some B
theorem LR.lt {w W : World} {B m c : Nat} {D R : List (Nat × Nat)} {A : Option Addr} {x : Nat × Nat} (h : LR w W B D A m c R x) : B < W.heap.size := (Array.getElem?_eq_some_iff.1 h.box).1
theorem LR.past {w W W' : World} {B m c : Nat} {D R : List (Nat × Nat)} {A : Option Addr} {x : Nat × Nat} (h : LR w W B D A m c R x) (hb : Below W.heap.size W W') : LR w W' B D A m c R x :=
  ⟨h.q.past hb, (hb.block _ h.lt).trans h.box, h.le, h.len, own_past h.own hb, h.ne⟩
theorem LR.cells {w W : World} {B m c : Nat} {D R : List (Nat × Nat)} {A : Option Addr} {x : Nat × Nat} (h : LR w W B D A m c R x) : W.cell? ⟨B, 0, none⟩ = some (.int .i64 (x.1 : Nat)) ∧ W.cell? ⟨B, 1, none⟩ = some (.int .i64 (x.2 : Nat)) := ⟨row_cell h.box 0 _ rfl, row_cell h.box 1 _ rfl⟩
theorem LR.app {w W W2 w8 : World} {B m c : Nat} {D R : List (Nat × Nat)} {A : Option Addr} {x y : Nat × Nat} (h : LR w W B D A m c R x) (hb : Below W.heap.size W W2) {A8 : Option Addr} {c8 : Nat} (ho : w8.ownsRow w.heap.size 33 2 (.slice A8 (m + 1) c8) (m + 1) (htV D ++ [.int .i64 (y.1 : Nat), .int .i64 (y.2 : Nat)])) (hg : W2.grownBy w8 (Value.slice A m c).ownBlock) (hv : (Value.slice A8 (m + 1) c8).ownBlock = (Value.slice A m c).ownBlock ∨ (Value.slice A8 (m + 1) c8).ownBlock = some W2.heap.size) : LR w w8 B (D ++ [y]) A8 (m + 1) c8 R x := by
  have h2 := h.past hb
  refine ⟨h2.q.grown hg (own_block h2.own), (hg.block B h2.lt (fun e => h.ne e.symm)).trans h2.box, h.le, by rw [List.length_append, ← h.len]; rfl, ?_, fun e => ?_⟩
  · rw [show D ++ [y] = D ++ [(y.1, y.2)] from rfl, htV_snoc]
    exact ho
  · rcases hv with hv | hv
    · exact h.ne (hv.symm.trans e)
    · rw [hv] at e
      injection e with e
      have := h2.lt
      omega
/-- The last hit of the row. -/
theorem LR.row {w W : World} {B m c : Nat} {D R : List (Nat × Nat)} {A : Option Addr} {x : Nat × Nat} (h : LR w W B D A (m + 1) c R x) : ∃ g cur, A = some ⟨g, 0, none⟩ ∧ w.heap.size ≤ g ∧ W.heap[g]? = some (.cells cur 33 (0, 0)) ∧ g ≠ B ∧ (m + 1) * 2 ≤ cur.size ∧ cur[m * 2]? = some (.int .i64 ((D.getLast?.getD (0, 0)).1 : Nat)) ∧ cur[m * 2 + 1]? = some (.int .i64 ((D.getLast?.getD (0, 0)).2 : Nat)) := by
  rcases h.own.2 with ⟨_, h0⟩ | ⟨g, cap, cur, e, h3, h4, h5, _, h7, h8⟩
  · omega
  · injection e with e1 _ e3
    subst e1; subst e3
    refine ⟨g, cur, rfl, h3, h4, fun e => h.ne (by rw [← e]; rfl), by omega, ?_⟩
    have hl := h.len
    have hd : D.getLast?.getD (0, 0) = D[m]?.getD (0, 0) := by rw [List.getLast?_eq_getElem?, ← hl]; rfl
    have hkey : ∀ j, j < (m + 1) * 2 → cur[j]? = (htV D)[j]? := fun j hj => by rw [← h8, List.getElem?_take, if_pos hj, Array.getElem?_toList]
    have hat : (htV D)[m * 2]? = some (.int .i64 ((D[m]?.getD (0, 0)).1 : Nat)) ∧ (htV D)[m * 2 + 1]? = some (.int .i64 ((D[m]?.getD (0, 0)).2 : Nat)) := htV_at' D m (by omega)
    rw [hkey _ (by omega), hkey _ (by omega), hd]
    exact hat
/-- The last hit is another one. -/
theorem LR.put {w W W' : World} {B m c g : Nat} {D R : List (Nat × Nat)} {x y : Nat × Nat} {cur : Array Value} (h : LR w W B D (some ⟨g, 0, none⟩) (m + 1) c R x) (h4 : W.heap[g]? = some (.cells cur 33 (0, 0))) (hW : (W.setCell ⟨g, m * 2, none⟩ (.int .i64 (y.1 : Nat))).setCell ⟨g, m * 2 + 1, none⟩ (.int .i64 (y.2 : Nat)) = W') : LR w W' B (D.dropLast ++ [y]) (some ⟨g, 0, none⟩) (m + 1) c R x := by
  have hgB : g ≠ B := fun e => h.ne (by rw [← e]; rfl)
  have hh : ∀ k, k ≠ g → W'.heap[k]? = W.heap[k]? := fun k hk => by
    rw [← hW]
    exact (Below.heap_setCell _ _ _ k hk).trans (Below.heap_setCell _ _ _ k hk)
  have hsz : W'.heap.size = W.heap.size := by rw [← hW, World.size_setCell, World.size_setCell]
  have hG : W'.heap[g]? = some (.cells ((cur.setIfInBounds (m * 2) (.int .i64 (y.1 : Nat))).setIfInBounds (m * 2 + 1) (.int .i64 (y.2 : Nat))) 33 (0, 0)) := by
    rw [← hW]
    exact row_set (row_set h4 _ _) _ _
  rcases h.own.2 with ⟨e, _⟩ | ⟨g', cap, cur', e, h3, h4', h5, h6, h7, h8⟩
  · cases e
  · injection e with e1 _ e3
    injection e1 with e1
    injection e1 with e1
    subst e1; subst e3
    rw [h4] at h4'
    simp only [Option.some.injEq, Obj.cells.injEq, and_true] at h4'
    subst h4'
    obtain ⟨E, hq1, hq2⟩ := h.q
    have hl := h.len
    have hdl : (D.dropLast ++ [y]).length = m + 1 := by rw [List.length_append, List.length_dropLast]; simp; omega
    refine ⟨⟨E, hq1.hit h4 h3 (by rw [← hW]; rfl) (by rw [← hW]; rfl) (by rw [← hW]; rfl) hsz hh, hq2⟩, (hh B (fun e => hgB e.symm)).trans h.box, h.le, hdl.symm, ⟨by rw [htV_len', hdl], .inr ⟨g, c, _, rfl, h3, hG, h5, h6, by simpa using h7, ?_⟩⟩, h.ne⟩
    apply List.ext_getElem?
    intro j
    rw [List.getElem?_take]
    by_cases hj : j < (m + 1) * 2
    · rw [if_pos hj, Array.getElem?_toList, Array.getElem?_setIfInBounds, Array.getElem?_setIfInBounds, Array.size_setIfInBounds]
      by_cases hj1 : j = m * 2 + 1
      · rw [if_pos hj1.symm, if_pos (by omega), hj1]
        have := (htV_at' (D.dropLast ++ [y]) m (by omega)).2
        rw [List.getElem?_append_right (by rw [List.length_dropLast]; omega), List.length_dropLast, show m - (D.length - 1) = 0 by omega] at this
        exact this.symm
      · rw [if_neg (fun e => hj1 e.symm)]
        by_cases hj2 : j = m * 2
        · rw [if_pos hj2.symm, if_pos (by omega), hj2]
          have := (htV_at' (D.dropLast ++ [y]) m (by omega)).1
          rw [List.getElem?_append_right (by rw [List.length_dropLast]; omega), List.length_dropLast, show m - (D.length - 1) = 0 by omega] at this
          exact this.symm
        · rw [if_neg (fun e => hj2 e.symm)]
          have hkey : cur[j]? = (htV D)[j]? := by rw [← h8, List.getElem?_take, if_pos hj, Array.getElem?_toList]
          rw [hkey]
          have hj3 : j / 2 < m := by omega
          have e1 := htV_at' D (j / 2) (by omega)
          have e2 := htV_at' (D.dropLast ++ [y]) (j / 2) (by omega)
          have e3 : (D.dropLast ++ [y])[j / 2]? = D[j / 2]? := by
            rw [List.getElem?_append_left (by rw [List.length_dropLast]; omega), List.getElem?_dropLast, if_pos (by omega)]
          rw [e3] at e2
          rcases (show j = (j / 2) * 2 ∨ j = (j / 2) * 2 + 1 by omega) with e | e
          · rw [e, e1.1, ← e2.1]
          · rw [e, e1.2, ← e2.2]
    · rw [if_neg hj, List.getElem?_eq_none (by rw [htV_len', hdl]; omega)]

end Go.Proofs.Ytjifekdjkjnefaa
