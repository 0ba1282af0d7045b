/- The laws ShiftAll and ShiftBack. -/
import Derived.Test.YtnkdbpbfapdfeaaEg
namespace Go.Proofs.Ytnkdbpbfapdfeaa
open Go.RowKit

theorem pair_step {wr W W' : World} {a b : Nat} {v1 v2 v3 v4 : Value} (h : (W.cell? ⟨a, 0, none⟩ = some v1 ∧ W.cell? ⟨a, 1, none⟩ = some v2 ∧ W.cell? ⟨b, 0, none⟩ = some v3 ∧ W.cell? ⟨b, 1, none⟩ = some v4) ∧ (a < W.heap.size ∧ b < W.heap.size) ∧ Below wr.heap.size wr W) (hb : Below W.heap.size W W') :
    (W'.cell? ⟨a, 0, none⟩ = some v1 ∧ W'.cell? ⟨a, 1, none⟩ = some v2 ∧ W'.cell? ⟨b, 0, none⟩ = some v3 ∧ W'.cell? ⟨b, 1, none⟩ = some v4) ∧ (a < W'.heap.size ∧ b < W'.heap.size) ∧ Below wr.heap.size wr W' := by
  obtain ⟨⟨e1, e2, e3, e4⟩, ⟨l1, l2⟩, hB⟩ := h
  have hs := hb.size
  exact ⟨⟨(hb.cell (p := ⟨a, 0, none⟩) l1).trans e1, (hb.cell (p := ⟨a, 1, none⟩) l1).trans e2, (hb.cell (p := ⟨b, 0, none⟩) l2).trans e3, (hb.cell (p := ⟨b, 1, none⟩) l2).trans e4⟩, ⟨by omega, by omega⟩, bel0 hB hb⟩
theorem pair_below {wr W : World} {a b : Nat} {v1 v2 v3 v4 : Value} (h : (W.cell? ⟨a, 0, none⟩ = some v1 ∧ W.cell? ⟨a, 1, none⟩ = some v2 ∧ W.cell? ⟨b, 0, none⟩ = some v3 ∧ W.cell? ⟨b, 1, none⟩ = some v4) ∧ (a < W.heap.size ∧ b < W.heap.size) ∧ Below wr.heap.size wr W) : Below wr.heap.size wr W := h.2.2

theorem back_eq (r c a n : Int) (h : num (moveZ r c 0 a n).1 = true) : allZ (r, c) [(0, a, n), (1, a, n)] = (r, c) := by
  show moveZ (moveZ r c 0 a n).1 (moveZ r c 0 a n).2 1 a n = (r, c)
  by_cases hp : okP r c = true
  · by_cases hs : okS 0 a n = true
    · have hs1 : okS 1 a n = true := hs
      obtain ⟨a1, a2, n1, n2, _, _⟩ := okS_t hs
      obtain ⟨r1, r2, c1, c2⟩ := okP_t hp
      by_cases hlt : r < a
      · have e : moveZ r c 0 a n = (r, c) := if_pos (.inr (.inr hlt))
        rw [e]
        exact if_pos (.inr (.inr hlt))
      · have hN : ¬ (okP r c = false ∨ okS 0 a n = false ∨ r < begZ 0 a) := by rw [hp, hs, show begZ 0 a = a from rfl]; simp; omega
        have e : moveZ r c 0 a n = (r + n, c) := by unfold moveZ; rw [if_neg hN, if_pos rfl]
        rw [e] at h ⊢
        have hc : num c = true := by simp only [okP, Bool.and_eq_true] at hp; exact hp.2
        have hp2 : okP (r + n) c = true := by rw [okP, h, hc]; rfl
        have hN2 : ¬ (okP (r + n) c = false ∨ okS 1 a n = false ∨ r + n < begZ 1 a) := by rw [hp2, hs1, show begZ 1 a = a from rfl]; simp; omega
        show moveZ (r + n) c 1 a n = (r, c)
        unfold moveZ
        rw [if_neg hN2, if_neg (by decide), show begZ 1 a = a from rfl, if_neg (by omega), show r + n - n = r by omega]
    · have hs0 : okS 0 a n = false := by simpa using hs
      have e : moveZ r c 0 a n = (r, c) := if_pos (.inr (.inl hs0))
      rw [e]
      exact if_pos (.inr (.inl hs0))
  · have hp0 : okP r c = false := by simpa using hp
    have e : moveZ r c 0 a n = (r, c) := if_pos (.inl hp0)
    rw [e]
    exact if_pos (.inl hp0)
end Go.Proofs.Ytnkdbpbfapdfeaa
