/- The walk of Apart: places that don't overlap. -/
import Derived.Test.YtjifekdjkjnefaaF8
namespace Go.Proofs.Ytjifekdjkjnefaa
open Go.RowKit

/-- One place more: taken, if it doesn't overlap the last one. -/
def apS (n : Nat) (acc : List Nat) (p : Nat) : List Nat := if acc = [] ∨ acc.getLast?.getD 0 + n ≤ p then acc ++ [p] else acc
def apL (n : Nat) (l : List Nat) : List Nat := l.foldl (apS n) []
theorem apL_snoc (n : Nat) (l : List Nat) (p : Nat) : apL n (l ++ [p]) = apS n (apL n l) p := by
  unfold apL
  rw [List.foldl_append]
  rfl
theorem apS_le (n : Nat) (acc : List Nat) (p : Nat) : (apS n acc p).length ≤ acc.length + 1 := by
  unfold apS
  split
  · simp
  · omega
theorem apL_le (n : Nat) (l : List Nat) : (apL n l).length ≤ l.length := by
  unfold apL
  suffices h : ∀ (l : List Nat) acc, (l.foldl (apS n) acc).length ≤ acc.length + l.length by
    have := h l []
    simpa using this
  intro l
  induction l with
  | nil => intro acc; simp
  | cons p t ih =>
    intro acc
    have h1 := ih (apS n acc p)
    have h2 := apS_le n acc p
    simp only [List.foldl_cons, List.length_cons]
    omega
theorem apS_no {n : Nat} {acc : List Nat} {p : Nat} (h : acc ≠ []) (h2 : p < acc.getLast?.getD 0 + n) : apS n acc p = acc := by
  unfold apS
  rw [if_neg]
  rintro (e | e)
  · exact h e
  · omega
theorem apS_yes {n : Nat} {acc : List Nat} {p : Nat} (h : acc = [] ∨ acc.getLast?.getD 0 + n ≤ p) : apS n acc p = acc ++ [p] := if_pos h
/-- Numbers behind a box at b, and a text in the box ahead of it. -/
def IT (w0 : World) (s : ByteArray) (xs : List Nat) (W : World) : Prop := IB w0 (w0.heap.size + 1) xs W ∧ W.heap[w0.heap.size]? = some (.cells #[.string s] 9 (0, 0))
theorem IT.past {w0 W W' : World} {s : ByteArray} {xs : List Nat} (h : IT w0 s xs W) (hb : Below W.heap.size W W') : IT w0 s xs W' ∧ ∀ k, OwI (w0.heap.size + 1) W' k → OwI (w0.heap.size + 1) W k :=
  ⟨⟨(h.1.past hb).1, (hb.block _ (Array.getElem?_eq_some_iff.1 h.2).1).trans h.2⟩, (h.1.past hb).2⟩
theorem IT.fro {w0 W W' : World} {s : ByteArray} {xs ys : List Nat} (h : IT w0 s xs W) (h2 : IB w0 (w0.heap.size + 1) ys W') (hf : FrO (OwI (w0.heap.size + 1)) W W') : IT w0 s ys W' :=
  ⟨h2, (hf.keep _ (Array.getElem?_eq_some_iff.1 h.2).1 (fun ho => by have := (h.1.lt ho).1; omega)).trans h.2⟩
theorem IB.at {w0 W : World} {b : Nat} {xs : List Nat} (h : IB w0 b xs W) : ∃ A c, W.heap[b]? = some (.cells #[.slice A xs.length c] 42 (0, 0)) ∧ W.ownsRow (b + 1) 3 1 (.slice A xs.length c) xs.length (intV xs) ∧ (xs ≠ [] → ∃ g, A = some ⟨g, 0, none⟩ ∧ W.cell? ⟨g, xs.length - 1, none⟩ = some (.int .i64 (xs.getLast?.getD 0 : Nat))) := by
  obtain ⟨_, _, _, A, c, h3, h4⟩ := h
  refine ⟨A, c, h3, h4, fun hne => ?_⟩
  have hl := List.length_pos_iff.2 hne
  obtain ⟨A', c', e, hA⟩ := own_form h4
  injection e with e1 _ _
  subst e1
  obtain ⟨g, rfl⟩ := hA hl
  refine ⟨g, rfl, ?_⟩
  have := h4.cellAt (xs.length - 1) (by omega)
  rw [this]
  unfold intV
  rw [List.getElem?_map, List.getLast?_eq_getElem?, List.getElem?_eq_getElem (by omega)]
  rfl
theorem apL_mem (n : Nat) (l : List Nat) : ∀ x ∈ apL n l, x ∈ l := by
  unfold apL
  suffices h : ∀ (l : List Nat) acc x, x ∈ l.foldl (apS n) acc → x ∈ acc ∨ x ∈ l by
    intro x hx
    rcases h l [] x hx with h | h
    · simp at h
    · exact h
  intro l
  induction l with
  | nil => intro acc x h; exact .inl h
  | cons p t ih =>
    intro acc x h
    rcases ih (apS n acc p) x h with h | h
    · unfold apS at h
      split at h
      · rcases List.mem_append.1 h with h | h
        · exact .inl h
        · exact .inr (by rw [List.mem_singleton.1 h]; exact List.mem_cons_self)
      · exact .inl h
    · exact .inr (List.mem_cons_of_mem _ h)
theorem pls_le (m : UInt8 → UInt8) (T N : List UInt8) : ∀ p ∈ pls m T N, p ≤ T.length := by
  intro p hp
  unfold pls at hp
  split at hp
  · simp at hp
  · have := List.mem_range.1 (List.mem_filter.1 hp).1
    omega
theorem IT.first (w : World) (s : ByteArray) : IT w s [] ((w.alloc (.cells #[.string s] 9)).alloc (.cells #[.slice none 0 0] 42)) := by
  have hs : (w.alloc (.cells #[.string s] 9)).heap.size = w.heap.size + 1 := by simp
  refine ⟨⟨belA (belA (Below.refl _ _) _) _, by omega, by simp, none, 0, ?_, World.ownsRow_nil _ _ _ _⟩, ?_⟩
  · have h2 := heap_alloc_new (w.alloc (.cells #[.string s] 9)) (.cells #[.slice none 0 0] 42)
    rw [hs] at h2
    exact h2
  · exact ((belA (Below.refl (w.alloc (.cells #[.string s] 9)).heap.size _) _).block _ (by simp)).trans (heap_alloc_new w _)
end Go.Proofs.Ytjifekdjkjnefaa
