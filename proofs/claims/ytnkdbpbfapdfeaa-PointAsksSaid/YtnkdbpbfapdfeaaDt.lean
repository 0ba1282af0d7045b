/- A slice of operations that came in, opened. -/
import Derived.Test.YtnkdbpbfapdfeaaFg
import Derived.Test.YtnkdbpbfapdfeaaDr
namespace Go.Proofs.Ytnkdbpbfapdfeaa
open Go.ChangeShapes Go.WideShapes Go.ChangeAt Go.WideMaps Go.WideElems Go.RowKit

abbrev Opn := Bool × Int × Int × Int × Int × Int
def encO (x : Opn) : List Value := [.bool x.1, .int .i64 x.2.1, .int .i64 x.2.2.1, .int .i64 x.2.2.2.1, .int .i64 x.2.2.2.2.1, .int .i64 x.2.2.2.2.2]
theorem encO_len (x : Opn) : (encO x).length = 6 := rfl
def Oz (L : List Opn) (i : Nat) : Opn := L[i]?.getD (false, 0, 0, 0, 0, 0)
/-- What an operation's cells hold, in any later world. -/
theorem RK.op {w : World} {A : Option Addr} {L : List Opn} (h : RK encO 6 w A L) (hne : L ≠ []) : ∃ b off, A = some ⟨b, off, none⟩ ∧ ∀ W, Below w.heap.size w W → b < W.heap.size ∧ ∀ i, i < L.length →
    W.cell? ⟨b, off + i * 6, none⟩ = some (.bool (Oz L i).1) ∧ W.cell? ⟨b, off + i * 6 + 1, none⟩ = some (.int .i64 (Oz L i).2.1) ∧ W.cell? ⟨b, off + i * 6 + 2, none⟩ = some (.int .i64 (Oz L i).2.2.1) ∧ W.cell? ⟨b, off + i * 6 + 3, none⟩ = some (.int .i64 (Oz L i).2.2.2.1) ∧ W.cell? ⟨b, off + i * 6 + 4, none⟩ = some (.int .i64 (Oz L i).2.2.2.2.1) ∧ W.cell? ⟨b, off + i * 6 + 5, none⟩ = some (.int .i64 (Oz L i).2.2.2.2.2) := by
  obtain ⟨b, off, e, hl, hc⟩ := h hne
  refine ⟨b, off, e, fun W hb => ?_⟩
  obtain ⟨b', off', e', hl', hc'⟩ := h.past hb hne
  rw [e] at e'
  injection e' with e'
  injection e' with e1 e2 _
  subst e1; subst e2
  refine ⟨hl', fun i hi => ?_⟩
  have hx : L[i]? = some (Oz L i) := by unfold Oz; rw [List.getElem?_eq_getElem hi]; rfl
  exact ⟨hc' i _ hx 0 _ rfl, hc' i _ hx 1 _ rfl, hc' i _ hx 2 _ rfl, hc' i _ hx 3 _ rfl, hc' i _ hx 4 _ rfl, hc' i _ hx 5 _ rfl⟩
theorem cBool : Try.prog.cellsOf 4 = 1 := by kernel_rfl
theorem cOp : Try.prog.cellsOf 34 = 6 := by kernel_rfl
theorem op_cells {H : Type} {enc : TypeId × Value → H} {W : World} {m : Nat} {v0 v1 v2 v3 v4 v5 : Value} {d : DataW H × List MemPlace} (ht : DataW.trod enc Try.prog W 0 (fun _ => true) true m 34 [v0, v1, v2, v3, v4, v5] = some d) :
    ∃ x : Opn, v0 = .bool x.1 ∧ v1 = .int .i64 x.2.1 ∧ v2 = .int .i64 x.2.2.1 ∧ v3 = .int .i64 x.2.2.2.1 ∧ v4 = .int .i64 x.2.2.2.2.1 ∧ v5 = .int .i64 x.2.2.2.2.2 := by
  obtain ⟨xs, m', rfl, _, hcl, hl2, hg⟩ := DataW.trod_struct Try.underlying34 ht
  have g0 : DataW.trod enc Try.prog W 0 (fun _ => true) true m' 4 (([v0, v1, v2, v3, v4, v5].drop 0).take (Try.prog.cellsOf 4)) = xs[0]? := hg 0 _ rfl
  have g1 : DataW.trod enc Try.prog W 0 (fun _ => true) true m' 30 (([v0, v1, v2, v3, v4, v5].drop 1).take (Try.prog.cellsOf 30)) = xs[1]? := hg 1 _ rfl
  have g2 : DataW.trod enc Try.prog W 0 (fun _ => true) true m' 32 (([v0, v1, v2, v3, v4, v5].drop 3).take (Try.prog.cellsOf 32)) = xs[2]? := hg 2 _ rfl
  have hx3 : xs.length = 3 := hl2
  rw [cBool, List.getElem?_eq_getElem (by omega)] at g0
  rw [cPos, List.getElem?_eq_getElem (by omega)] at g1
  rw [cShift, List.getElem?_eq_getElem (by omega)] at g2
  obtain ⟨z0, b0, _⟩ := DataW.trod_bool Try.underlying4 g0
  simp at b0
  obtain ⟨r, c, b1, b2⟩ := pos_cells (v0 := v1) (v1 := v2) g1
  obtain ⟨k, a, n, b3, b4, b5⟩ := shift_cells (v0 := v3) (v1 := v4) (v2 := v5) g2
  exact ⟨(z0, r, c, k, a, n), b0, b1, b2, b3, b4, b5⟩
/-- A slice of operations that came in. -/
theorem open_opn {H : Type} {enc : TypeId × Value → H} {W : World} {A : Option Addr} {n c : Nat} {d : DataW H} {p : List MemPlace} (h : DataW.Trod enc Try.prog W 0 (fun _ => true) true 22 (.slice A n c) d p) :
    ∃ xs : List Opn, n = xs.length ∧ RK encO 6 W A xs := by
  obtain ⟨fuel, hf⟩ := h
  rcases Go.Deep.open_slice Try.underlying22 hf with ⟨hcs, _⟩ | ⟨a, len, cap, m, n', D, Pl, hcs, _, hl, _, hm, _, hel⟩
  · have e : Value.slice A n c = .slice none 0 0 := by simpa [Value.cells] using hcs
    injection e with e1 e2 e3
    subst e1; subst e2
    exact ⟨[], rfl, fun h => absurd rfl h⟩
  · have e : Value.slice A n c = .slice (some a) len cap := by simpa [Value.cells] using hcs
    injection e with e1 e2 e3
    subst e1; subst e2; subst e3
    rw [cOp] at hel
    have hmc : m = c := by simpa using hm
    have key : ∀ i, i < n → ∃ x : Opn, ∀ (j : Nat) (u : Value), (encO x)[j]? = some u → W.cell? ((a.add (i * 6)).add j) = some u := fun i hi => by
      obtain ⟨cs', hc, ht⟩ := hel i (by omega)
      obtain ⟨_, hlen, hat⟩ := World.cells?_some hc
      match cs', hlen with
      | [v0, v1, v2, v3, v4, v5], _ =>
        obtain ⟨x, rfl, rfl, rfl, rfl, rfl, rfl⟩ := op_cells ht
        refine ⟨x, fun j u hu => ?_⟩
        have hj : j < 6 := by have := (List.getElem?_eq_some_iff.1 hu).1; simpa [encO] using this
        have h1 := hat j hj
        rw [h1]
        exact hu
    by_cases hn0 : n = 0
    · subst hn0
      exact ⟨[], rfl, fun h => absurd rfl h⟩
    · obtain ⟨b, off, spot⟩ := a
      obtain ⟨x0, k0⟩ := key 0 (by omega)
      have k00 := k0 0 _ rfl
      have hspot : spot = none := by simpa [Addr.add] using World.cell?_spot k00
      subst hspot
      have hadd : ∀ i j : Nat, (((⟨b, off, none⟩ : Addr).add (i * 6)).add j) = ⟨b, off + i * 6 + j, none⟩ := fun i j => by
        unfold Addr.add
        by_cases h1 : i * 6 = 0 <;> by_cases h2 : j = 0 <;> simp [h1, h2]
      have key' : ∀ i, i < n → ∃ x : Opn, ∀ (j : Nat) (u : Value), (encO x)[j]? = some u → W.cell? ⟨b, off + i * 6 + j, none⟩ = some u := fun i hi => by
        obtain ⟨x, k⟩ := key i hi
        refine ⟨x, fun j u hu => ?_⟩
        have := k j u hu
        rwa [hadd] at this
      have ex : ∃ f : Nat → Opn, ∀ i, i < n → ∀ (j : Nat) (u : Value), (encO (f i))[j]? = some u → W.cell? ⟨b, off + i * 6 + j, none⟩ = some u :=
        ⟨fun i => if h : i < n then (key' i h).choose else (false, 0, 0, 0, 0, 0), fun i hi => by
          have hk := (key' i hi).choose_spec
          simp only [dif_pos hi]
          exact hk⟩
      obtain ⟨f, hf'⟩ := ex
      refine ⟨(List.range n).map f, by simp, fun _ => ⟨b, off, rfl, lt_of_cell (hf' 0 (by omega) 0 _ rfl), fun i x hx j u hu => ?_⟩⟩
      have hi : i < n := by have := (List.getElem?_eq_some_iff.1 hx).1; simpa using this
      rw [List.getElem?_map, List.getElem?_range hi] at hx
      simp at hx
      subst hx
      exact hf' i hi j u hu
end Go.Proofs.Ytnkdbpbfapdfeaa
