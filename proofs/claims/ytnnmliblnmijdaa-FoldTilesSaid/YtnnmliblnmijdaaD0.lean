/- What the frames of fold's laws need: the program's own facts; slices of structs that came in, opened. -/
import Derived.Test.YtnnmliblnmijdaaD1
import Derived.ProofKit
import Derived.OpenShut
import Derived.Deep.Slices
namespace Go.Proofs.Ytnnmliblnmijdaa
open Go.ChangeShapes Go.WideShapes Go.ChangeAt Go.WideMaps Go.WideElems Go.RowKit

theorem own : ownKnob Try.prog.godebug = none := by kernel_rfl
theorem laidOut : laidOutB Try.prog = true := by kernel_rfl
theorem cInt : Try.prog.cellsOf 3 = 1 := by kernel_rfl
theorem cU64 : Try.prog.cellsOf 38 = 1 := by kernel_rfl
theorem cItem : Try.prog.cellsOf 40 = 3 := by kernel_rfl
theorem cFold : Try.prog.cellsOf 47 = 3 := by kernel_rfl
theorem lt_of_cell {w : World} {b o : Nat} {v : Value} (h : w.cell? ⟨b, o, none⟩ = some v) : b < w.heap.size := by
  rcases Nat.lt_or_ge b w.heap.size with hl | hl
  · exact hl
  · simp [World.cell?, Array.getElem?_eq_none hl] at h
/-- A slice of structs that came in, read as a list. -/
theorem open_rows {α : Type} [Inhabited α] {H : Type} {enc : TypeId × Value → H} {W : World} {A : Option Addr} {n c : Nat} {d : DataW H} {p : List MemPlace} {ts te : TypeId} (en : α → List Value) (K : Nat) (hK0 : 0 < K) (hK : ∀ x, (en x).length = K) (P : α → Prop)
    (hu : Try.prog.underlying ts = some (.slice te)) (hce : Try.prog.cellsOf te = K)
    (hel1 : ∀ (m : Nat) (cs : List Value) (d : DataW H × List MemPlace), cs.length = K → DataW.trod enc Try.prog W 0 (fun _ => true) true m te cs = some d → ∃ x, en x = cs ∧ P x)
    (h : DataW.Trod enc Try.prog W 0 (fun _ => true) true ts (.slice A n c) d p) :
    ∃ xs : List α, n = xs.length ∧ (∀ x ∈ xs, P x) ∧ RK en K W A xs ∧ n ≤ c ∧ (A = none → c = 0) := by
  obtain ⟨fuel, hf⟩ := h
  rcases Go.Deep.open_slice hu hf with ⟨hcs, _⟩ | ⟨a, len, cap, m, n', D, Pl, hcs, _, hl, _, hm, _, hel⟩
  · have e : Value.slice A n c = .slice none 0 0 := by simpa [Value.cells] using hcs
    injection e with e1 e2 e3
    subst e1; subst e2
    exact ⟨[], rfl, fun x hx => absurd hx (by simp), fun h => absurd rfl h, Nat.zero_le _, fun _ => e3⟩
  · have e : Value.slice A n c = .slice (some a) len cap := by simpa [Value.cells] using hcs
    injection e with e1 e2 e3
    subst e1; subst e2; subst e3
    rw [hce] at hel
    have hmc : m = c := by simpa using hm
    have key : ∀ i, i < n → ∃ x : α, P x ∧ ∀ (j : Nat) (u : Value), (en x)[j]? = some u → W.cell? ((a.add (i * K)).add j) = some u := fun i hi => by
      obtain ⟨cs', hc, ht⟩ := hel i (by omega)
      obtain ⟨_, hlen, hat⟩ := World.cells?_some hc
      obtain ⟨x, hx, hp⟩ := hel1 _ _ _ hlen ht
      refine ⟨x, hp, fun j u hu => ?_⟩
      have hj : j < K := by have := (List.getElem?_eq_some_iff.1 hu).1; rwa [hK] at this
      have h1 := hat j hj
      rw [h1, ← hx]
      exact hu
    by_cases hn0 : n = 0
    · subst hn0
      exact ⟨[], rfl, fun x hx => absurd hx (by simp), fun h => absurd rfl h, Nat.zero_le _, fun h => by cases h⟩
    · obtain ⟨b, off, spot⟩ := a
      obtain ⟨x0, _, k0⟩ := key 0 (by omega)
      obtain ⟨u0, hu0⟩ : ∃ u, (en x0)[0]? = some u := ⟨_, List.getElem?_eq_getElem (by rw [hK]; exact hK0)⟩
      have k00 := k0 0 _ hu0
      have hspot : spot = none := by simpa [Addr.add] using World.cell?_spot k00
      subst hspot
      have hadd : ∀ i j : Nat, (((⟨b, off, none⟩ : Addr).add (i * K)).add j) = ⟨b, off + i * K + j, none⟩ := fun i j => by
        unfold Addr.add
        by_cases h1 : i * K = 0 <;> by_cases h2 : j = 0 <;> simp [h1, h2]
      have key' : ∀ i, i < n → ∃ x : α, P x ∧ ∀ (j : Nat) (u : Value), (en x)[j]? = some u → W.cell? ⟨b, off + i * K + j, none⟩ = some u := fun i hi => by
        obtain ⟨x, hp, k⟩ := key i hi
        refine ⟨x, hp, fun j u hu => ?_⟩
        have := k j u hu
        rwa [hadd] at this
      have ex : ∃ f : Nat → α, ∀ i, i < n → P (f i) ∧ ∀ (j : Nat) (u : Value), (en (f i))[j]? = some u → W.cell? ⟨b, off + i * K + j, none⟩ = some u :=
        ⟨fun i => if h : i < n then (key' i h).choose else default, fun i hi => by
          have hk := (key' i hi).choose_spec
          simp only [dif_pos hi]
          exact hk⟩
      obtain ⟨f, hf'⟩ := ex
      refine ⟨(List.range n).map f, by simp, fun x hx => ?_, fun _ => ⟨b, off, rfl, ?_, fun i x hx j u hu => ?_⟩, hl, fun h => by cases h⟩
      · obtain ⟨i, hi, rfl⟩ := List.mem_map.1 hx
        exact (hf' i (List.mem_range.1 hi)).1
      · obtain ⟨v0, hv0⟩ : ∃ u, (en (f 0))[0]? = some u := ⟨_, List.getElem?_eq_getElem (by rw [hK]; exact hK0)⟩
        exact lt_of_cell ((hf' 0 (by omega)).2 0 _ hv0)
      · have hi : i < n := by have := (List.getElem?_eq_some_iff.1 hx).1; simpa using this
        rw [List.getElem?_map, List.getElem?_range hi] at hx
        simp at hx
        subst hx
        exact (hf' i hi).2 j u hu
theorem item_cells {H : Type} {enc : TypeId × Value → H} {W : World} (m : Nat) (cs : List Value) (d : DataW H × List MemPlace) (hl : cs.length = 3) (ht : DataW.trod enc Try.prog W 0 (fun _ => true) true m 40 cs = some d) : ∃ x : T3, encI x = cs ∧ -9223372036854775808 ≤ x.1 := by
  match cs, hl with
  | [v0, v1, v2], _ =>
    obtain ⟨xs, m', rfl, _, hcl, hl2, hg⟩ := DataW.trod_struct Try.underlying40 ht
    have g0 : DataW.trod enc Try.prog W 0 (fun _ => true) true m' 3 (([v0, v1, v2].drop 0).take (Try.prog.cellsOf 3)) = xs[0]? := hg 0 _ rfl
    have g1 : DataW.trod enc Try.prog W 0 (fun _ => true) true m' 38 (([v0, v1, v2].drop 1).take (Try.prog.cellsOf 38)) = xs[1]? := hg 1 _ rfl
    have g2 : DataW.trod enc Try.prog W 0 (fun _ => true) true m' 3 (([v0, v1, v2].drop 2).take (Try.prog.cellsOf 3)) = xs[2]? := hg 2 _ rfl
    have hx3 : xs.length = 3 := hl2
    rw [cInt, List.getElem?_eq_getElem (by omega)] at g0 g2
    rw [cU64, List.getElem?_eq_getElem (by omega)] at g1
    obtain ⟨z0, b0, _, w0⟩ := DataW.trod_int Try.underlying3 g0
    obtain ⟨z1, b1, _⟩ := DataW.trod_int Try.underlying38 g1
    obtain ⟨z2, b2, _⟩ := DataW.trod_int Try.underlying3 g2
    simp at b0 b1 b2
    subst b0; subst b1; subst b2
    exact ⟨(z0, z1, z2), rfl, (bounds_i64 w0).1⟩
theorem fold_cells {H : Type} {enc : TypeId × Value → H} {W : World} (m : Nat) (cs : List Value) (d : DataW H × List MemPlace) (hl : cs.length = 3) (ht : DataW.trod enc Try.prog W 0 (fun _ => true) true m 47 cs = some d) : ∃ x : T3, encF x = cs ∧ True := by
  match cs, hl with
  | [v0, v1, v2], _ =>
    obtain ⟨xs, m', rfl, _, hcl, hl2, hg⟩ := DataW.trod_struct Try.underlying47 ht
    have g0 : DataW.trod enc Try.prog W 0 (fun _ => true) true m' 3 (([v0, v1, v2].drop 0).take (Try.prog.cellsOf 3)) = xs[0]? := hg 0 _ rfl
    have g1 : DataW.trod enc Try.prog W 0 (fun _ => true) true m' 3 (([v0, v1, v2].drop 1).take (Try.prog.cellsOf 3)) = xs[1]? := hg 1 _ rfl
    have g2 : DataW.trod enc Try.prog W 0 (fun _ => true) true m' 38 (([v0, v1, v2].drop 2).take (Try.prog.cellsOf 38)) = xs[2]? := hg 2 _ rfl
    have hx3 : xs.length = 3 := hl2
    rw [cInt, List.getElem?_eq_getElem (by omega)] at g0 g1
    rw [cU64, List.getElem?_eq_getElem (by omega)] at g2
    obtain ⟨z0, b0, _⟩ := DataW.trod_int Try.underlying3 g0
    obtain ⟨z1, b1, _⟩ := DataW.trod_int Try.underlying3 g1
    obtain ⟨z2, b2, _⟩ := DataW.trod_int Try.underlying38 g2
    simp at b0 b1 b2
    subst b0; subst b1; subst b2
    exact ⟨(z0, z1, z2), rfl, trivial⟩
theorem open_items {H : Type} {enc : TypeId × Value → H} {W : World} {A : Option Addr} {n c : Nat} {d : DataW H} {p : List MemPlace} (h : DataW.Trod enc Try.prog W 0 (fun _ => true) true 26 (.slice A n c) d p) :
    ∃ xs : List T3, n = xs.length ∧ (∀ x ∈ xs, -9223372036854775808 ≤ x.1) ∧ RK encI 3 W A xs ∧ n ≤ c ∧ (A = none → c = 0) :=
  open_rows encI 3 (by omega) encI_len _ Try.underlying26 cItem item_cells h
theorem open_folds {H : Type} {enc : TypeId × Value → H} {W : World} {A : Option Addr} {n c : Nat} {d : DataW H} {p : List MemPlace} (h : DataW.Trod enc Try.prog W 0 (fun _ => true) true 22 (.slice A n c) d p) :
    ∃ xs : List T3, n = xs.length ∧ RK encF 3 W A xs :=
  let ⟨xs, h1, _, h2, _⟩ := open_rows encF 3 (by omega) encF_len (fun _ => True) Try.underlying22 cFold fold_cells h
  ⟨xs, h1, h2⟩

end Go.Proofs.Ytnnmliblnmijdaa
