/- Slices of scalars and of bytes that came in, opened. -/
import Derived.Test.YtdhmpnjodcjjpaaDoorUl
import Derived.Test.YtdhmpnjodcjjpaaDoorUs
namespace Go.Proofs.YtdhmpnjodcjjpaaDoor
open Go.ChangeShapes Go.WideShapes Go.ChangeAt Go.WideMaps Go.WideElems Go.RowKit

theorem c21 : Tryd.prog.cellsOf 21 = 1 := by kernel_rfl
/-- A slice of scalars that came in. -/
theorem open_runes {H : Type} {enc : TypeId × Value → H} {W : World} {A : Option Addr} {n c : Nat} {d : DataW H} {p : List MemPlace} (h : DataW.Trod enc Tryd.prog W 0 (fun _ => true) true 25 (.slice A n c) d p) :
    ∃ xs : List Int, n = xs.length ∧ n ≤ c ∧ c ≤ 9223372036854775807 ∧ RS W W.heap.size A xs := by
  obtain ⟨fuel, hf⟩ := h
  rcases open_ints Tryd.underlying25 Tryd.underlying21 c21 hf with ⟨hcs, _⟩ | ⟨a, len, cap, zs, hcs, _, hl, hm, hz, _, hcell, _⟩
  · have e : Value.slice A n c = .slice none 0 0 := by simpa [Value.cells] using hcs
    injection e with e1 e2 e3
    subst e1; subst e2; subst e3
    exact ⟨[], rfl, Nat.le_refl _, by omega, fun h => absurd rfl h⟩
  · have e : Value.slice A n c = .slice (some a) len cap := by simpa [Value.cells] using hcs
    injection e with e1 e2 e3
    subst e1; subst e2; subst e3
    have hzl : zs.length = c := by simpa using hz
    refine ⟨zs.take n, by simp; omega, hl, by unfold maxLen at hm; omega, fun hne => ?_⟩
    have hpos : 0 < zs.length := by
      rcases Nat.eq_zero_or_pos zs.length with h0 | h0
      · rw [List.eq_nil_of_length_eq_zero h0] at hne; simp at hne
      · exact h0
    obtain ⟨b, off, rfl, hc⟩ := ints_at hcell hpos
    refine ⟨b, off, rfl, lt_of_cell (hc 0 hpos), fun k hk => ?_⟩
    have hk' : k < n := by simp at hk; omega
    rw [hc k (by omega), List.getElem?_take, if_pos hk']
    rfl
/-- A slice of bytes that came in; a nil one is empty. -/
theorem open_bytesN {H : Type} {enc : TypeId × Value → H} {W : World} {A : Option Addr} {n c : Nat} {d : DataW H} {p : List MemPlace} (h : DataW.Trod enc Tryd.prog W 0 (fun _ => true) true 22 (.slice A n c) d p) :
    ∃ xs : List Nat, n = xs.length ∧ n ≤ c ∧ c ≤ 9223372036854775807 ∧ BS W W.heap.size A xs ∧ (A = none → n = 0 ∧ c = 0) := by
  obtain ⟨xs, h1, h2, h3, h4⟩ := open_bytes h
  refine ⟨xs, h1, h2, h3, h4, fun hA => ?_⟩
  subst hA
  obtain ⟨fuel, hf⟩ := h
  rcases open_ints Tryd.underlying22 Tryd.underlying5 c5 hf with ⟨hcs, _⟩ | ⟨_, _, _, _, hcs, _⟩
  · have e : Value.slice none n c = .slice none 0 0 := by simpa [Value.cells] using hcs
    injection e with _ e2 e3
    exact ⟨e2, e3⟩
  · simp [Value.cells] at hcs

end Go.Proofs.YtdhmpnjodcjjpaaDoor
