/- A slice of places that came in, opened. -/
import Derived.Test.YtnkdbpbfapdfeaaEl
import Derived.Test.YtnkdbpbfapdfeaaFf
namespace Go.Proofs.Ytnkdbpbfapdfeaa
open Go.ChangeShapes Go.WideShapes Go.ChangeAt Go.WideMaps Go.WideElems Go.RowKit

set_option maxRecDepth 100000 in
/-- A slice of places that came in. -/
theorem open_poss {H : Type} {enc : TypeId × Value → H} {W : World} {A : Option Addr} {n c : Nat} {d : DataW H} {p : List MemPlace} (h : DataW.Trod enc Try.prog W 0 (fun _ => true) true 40 (.slice A n c) d p) :
    ∃ xs : List (Int × Int), n = xs.length ∧ RPl W W.heap.size A xs := by
  obtain ⟨fuel, hf⟩ := h
  rcases Go.Deep.open_slice Try.underlying40 hf with ⟨hcs, _⟩ | ⟨a, len, cap, m, n', D, Pl, hcs, _, hl, _, hm, _, hel⟩
  · have e : Value.slice A n c = .slice none 0 0 := by simpa [Value.cells] using hcs
    injection e with e1 e2 e3
    subst e1; subst e2
    exact ⟨[], rfl, fun h => absurd rfl h⟩
  · have e : Value.slice A n c = .slice (some a) len cap := by simpa [Value.cells] using hcs
    injection e with e1 e2 e3
    subst e1; subst e2; subst e3
    rw [cPos] at hel
    have hmc : m = c := by simpa using hm
    have key : ∀ i, i < n → ∃ z0 z1 : Int, W.cell? ((a.add (i * 2)).add 0) = some (.int .i64 z0) ∧ W.cell? ((a.add (i * 2)).add 1) = some (.int .i64 z1) := fun i hi => by
      obtain ⟨cs', hc, ht⟩ := hel i (by omega)
      obtain ⟨_, hlen, hat⟩ := World.cells?_some hc
      match cs', hlen with
      | [v0, v1], _ =>
        obtain ⟨z0, z1, rfl, rfl⟩ := pos_cells ht
        exact ⟨z0, z1, hat 0 (by omega), hat 1 (by omega)⟩
    by_cases hn0 : n = 0
    · subst hn0
      exact ⟨[], rfl, fun h => absurd rfl h⟩
    · obtain ⟨b, off, spot⟩ := a
      obtain ⟨z0, z1, k0, _⟩ := key 0 (by omega)
      have hspot : spot = none := by simpa [Addr.add] using World.cell?_spot k0
      subst hspot
      have hadd : ∀ i j : Nat, (((⟨b, off, none⟩ : Addr).add (i * 2)).add j) = ⟨b, off + i * 2 + j, none⟩ := fun i j => by
        unfold Addr.add
        by_cases h1 : i * 2 = 0 <;> by_cases h2 : j = 0 <;> simp [h1, h2]
      have key' : ∀ i, i < n → ∃ z : Int × Int, W.cell? ⟨b, off + i * 2, none⟩ = some (.int .i64 z.1) ∧ W.cell? ⟨b, off + i * 2 + 1, none⟩ = some (.int .i64 z.2) := fun i hi => by
        obtain ⟨z0, z1, k0, k1⟩ := key i hi
        rw [hadd] at k0 k1
        exact ⟨(z0, z1), k0, k1⟩
      have ex : ∃ f : Nat → Int × Int, ∀ i, i < n → W.cell? ⟨b, off + i * 2, none⟩ = some (.int .i64 (f i).1) ∧ W.cell? ⟨b, off + i * 2 + 1, none⟩ = some (.int .i64 (f i).2) :=
        ⟨fun i => if h : i < n then (key' i h).choose else (0, 0), fun i hi => by
          have hk := (key' i hi).choose_spec
          simp only [dif_pos hi]
          exact hk⟩
      obtain ⟨f, hf'⟩ := ex
      refine ⟨(List.range n).map f, by simp, fun _ => ⟨b, off, rfl, lt_of_cell (hf' 0 (by omega)).1, fun k hk => ?_⟩⟩
      have hk' : k < n := by simpa using hk
      rw [List.getElem?_map, List.getElem?_range hk']
      exact hf' k hk'
end Go.Proofs.Ytnkdbpbfapdfeaa
