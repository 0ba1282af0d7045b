/- A slice of structs that came in, opened: for any type of elements. -/
import Derived.Test.YtfjgfmeanehpmaaKa
import Derived.ProofKit
import Derived.OpenShut
import Derived.Deep.Slices
import Derived.SizedLaws
namespace Go.Proofs.Ytfjgfmeanehpmaa
open Go.ChangeShapes Go.WideShapes Go.ChangeAt Go.WideMaps Go.WideElems Go.RowKit

theorem weightsAll_mem {H : Type} {P : Program} {e : TypeId} : ∀ {l : List (DataW H)} {d : DataW H}, d ∈ l → ∀ k ∈ d.weights P e, k ∈ DataW.weightsAll P e l
  | x :: l, d, h, k, hk => by
    simp only [DataW.weightsAll, List.mem_append]
    rcases List.mem_cons.1 h with rfl | h
    · exact .inl hk
    · exact .inr (weightsAll_mem h k hk)
  | [], _, h, _, _ => by cases h
/-- A slice of elements of K cells that came in: nil, or its elements' cells lie one behind the other. -/
theorem open_rows {H : Type} {enc : TypeId × Value → H} {P : Program} {W : World} {base : Nat} {keep : Nat → Bool} {b : Bool} {fuel : Nat} {t e : TypeId} {K : Nat} {A : Option Addr} {n c : Nat} {x : DataW H × List MemPlace} (ht : P.underlying t = some (.slice e)) (hK : P.cellsOf e = K) (hK0 : 0 < K)
    (h : DataW.trod enc P W base keep b fuel t (Value.slice A n c).cells.toList = some x) :
    (A = none ∧ n = 0 ∧ c = 0 ∧ x.1 = .nil) ∨ ∃ bk off sp, A = some ⟨bk, off, sp⟩ ∧ n ≤ c ∧ c ≤ maxLen ∧ ∃ (V : Nat → List Value) (D : Nat → DataW H) (S : List (DataW H)) (fu : Nat), x.1 = .slice ((List.range n).map D) S ∧
      ∀ i, i < n → sp = none ∧ (V i).length = K ∧ (∀ j u, (V i)[j]? = some u → W.cell? ⟨bk, off + i * K + j, none⟩ = some u) ∧ bk < W.heap.size ∧ ∃ p, DataW.trod enc P W base keep b fu e (V i) = some (D i, p) := by
  rcases Go.Deep.open_slice ht h with ⟨hcs, hx⟩ | ⟨a, len, cap, m, n', D, Pl, hcs, _, hl, hmx, hm, hx, hel⟩
  · have e : Value.slice A n c = .slice none 0 0 := by simpa [Value.cells] using hcs
    injection e with e1 e2 e3
    left
    exact ⟨e1, e2, e3, by rw [hx]⟩
  · right
    have e : Value.slice A n c = .slice (some a) len cap := by simpa [Value.cells] using hcs
    injection e with e1 e2 e3
    subst e1; subst e2; subst e3
    rw [hK] at hel
    have hmc : n ≤ m := by rw [hm]; split <;> omega
    obtain ⟨bk, off, sp⟩ := a
    obtain ⟨V, hV⟩ : ∃ V : Nat → List Value, ∀ i, i < n → W.cells? base (((⟨bk, off, sp⟩ : Addr)).add (i * K)) K = some (V i) ∧ DataW.trod enc P W base keep b n' _ (V i) = some (D i, Pl i) :=
      ⟨fun i => if hi : i < m then (hel i hi).choose else [], fun i hi => by
        have hk := (hel i (by omega)).choose_spec
        simp only [dif_pos (show i < m by omega)]
        exact hk⟩
    refine ⟨bk, off, sp, rfl, hl, hmx, V, D, _, n', by rw [hx], fun i hi => ?_⟩
    obtain ⟨h1, h2⟩ := hV i hi
    obtain ⟨_, hlen, hat⟩ := World.cells?_some h1
    have hsp : sp = none := by
      obtain ⟨h1', _⟩ := hV 0 (by omega)
      obtain ⟨_, hlen', hat'⟩ := World.cells?_some h1'
      have h0 := hat' 0 (by omega)
      have h0 := World.cell?_spot (h0.trans (List.getElem?_eq_getElem (by omega)))
      simpa [Addr.add] using h0
    subst hsp
    have hadd : ∀ i j : Nat, (((⟨bk, off, none⟩ : Addr).add (i * K)).add j) = ⟨bk, off + i * K + j, none⟩ := fun i j => by
      unfold Addr.add
      by_cases h1 : i * K = 0 <;> by_cases h2 : j = 0 <;> simp [h1, h2]
    have hat' : ∀ j u, (V i)[j]? = some u → W.cell? ⟨bk, off + i * K + j, none⟩ = some u := fun j u hu => by
      have hj : j < (V i).length := (List.getElem?_eq_some_iff.1 hu).1
      have h3 := hat j (by omega)
      rw [hadd] at h3
      exact h3.trans hu
    refine ⟨rfl, hlen, hat', ?_, Pl i, h2⟩
    have h0 := hat' 0 _ (List.getElem?_eq_getElem (by omega))
    rcases Nat.lt_or_ge bk W.heap.size with hl | hl
    · exact hl
    · simp [World.cell?, Array.getElem?_eq_none hl] at h0
end Go.Proofs.Ytfjgfmeanehpmaa
