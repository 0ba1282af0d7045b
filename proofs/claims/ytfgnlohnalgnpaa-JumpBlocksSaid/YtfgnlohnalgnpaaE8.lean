/- A slice of blocks that came in, opened. -/
import Derived.Test.YtfgnlohnalgnpaaE5
import Derived.Test.YtfgnlohnalgnpaaE0
namespace Go.Proofs.Ytfgnlohnalgnpaa
open Go.ChangeShapes Go.WideShapes Go.ChangeAt Go.WideMaps Go.WideElems Go.RowKit

theorem cU64 : Try.prog.cellsOf 26 = 1 := by kernel_rfl
theorem cBool : Try.prog.cellsOf 4 = 1 := by kernel_rfl
theorem cStr : Try.prog.cellsOf 9 = 1 := by kernel_rfl
theorem cPos : Try.prog.cellsOf 37 = 2 := by kernel_rfl
theorem cBlock : Try.prog.cellsOf 39 = 17 := by kernel_rfl
theorem lt_of_cell {w : World} {b o : Nat} {v : Value} (h : w.cell? ⟨b, o, none⟩ = some v) : b < w.heap.size := by
  rcases Nat.lt_or_ge b w.heap.size with hl | hl
  · exact hl
  · simp [World.cell?, Array.getElem?_eq_none hl] at h
/-- A slice of structs that came in, read as a list. -/
theorem open_rows {α : Type} [Inhabited α] {H : Type} {enc : TypeId × Value → H} {W : World} {A : Option Addr} {n c : Nat} {d : DataW H} {p : List MemPlace} {ts te : TypeId} (en : α → List Value) (K : Nat) (hK0 : 0 < K) (hK : ∀ x, (en x).length = K) (P : α → Prop)
    (hu : Try.prog.underlying ts = some (.slice te)) (hce : Try.prog.cellsOf te = K)
    (hel1 : ∀ (m : Nat) (cs : List Value) (d : DataW H × List MemPlace), cs.length = K → DataW.trod enc Try.prog W 0 (fun _ => true) true m te cs = some d → ∃ x, en x = cs ∧ P x)
    (h : DataW.Trod enc Try.prog W 0 (fun _ => true) true ts (.slice A n c) d p) :
    ∃ xs : List α, n = xs.length ∧ (∀ x ∈ xs, P x) ∧ RK en K W A xs ∧ n ≤ c ∧ (A = none → c = 0) := by
  obtain ⟨fuel, hf⟩ := h
  rcases Go.Deep.open_slice hu hf with ⟨hcs, _⟩ | ⟨a, len, cap, m, n', D, Pl, hcs, _, hl, _, hm, _, hel⟩
  · have e : Value.slice A n c = .slice none 0 0 := by simpa [Value.cells] using hcs
    injection e with e1 e2 e3
    subst e1; subst e2
    exact ⟨[], rfl, fun x hx => absurd hx (by simp), fun h => absurd rfl h, Nat.zero_le _, fun _ => e3⟩
  · have e : Value.slice A n c = .slice (some a) len cap := by simpa [Value.cells] using hcs
    injection e with e1 e2 e3
    subst e1; subst e2; subst e3
    rw [hce] at hel
    have hmc : m = c := by simpa using hm
    have key : ∀ i, i < n → ∃ x : α, P x ∧ ∀ (j : Nat) (u : Value), (en x)[j]? = some u → W.cell? ((a.add (i * K)).add j) = some u := fun i hi => by
      obtain ⟨cs', hc, ht⟩ := hel i (by omega)
      obtain ⟨_, hlen, hat⟩ := World.cells?_some hc
      obtain ⟨x, hx, hp⟩ := hel1 _ _ _ hlen ht
      refine ⟨x, hp, fun j u hu => ?_⟩
      have hj : j < K := by have := (List.getElem?_eq_some_iff.1 hu).1; rwa [hK] at this
      have h1 := hat j hj
      rw [h1, ← hx]
      exact hu
    by_cases hn0 : n = 0
    · subst hn0
      exact ⟨[], rfl, fun x hx => absurd hx (by simp), fun h => absurd rfl h, Nat.zero_le _, fun h => by cases h⟩
    · obtain ⟨b, off, spot⟩ := a
      obtain ⟨x0, _, k0⟩ := key 0 (by omega)
      obtain ⟨u0, hu0⟩ : ∃ u, (en x0)[0]? = some u := ⟨_, List.getElem?_eq_getElem (by rw [hK]; exact hK0)⟩
      have k00 := k0 0 _ hu0
      have hspot : spot = none := by simpa [Addr.add] using World.cell?_spot k00
      subst hspot
      have hadd : ∀ i j : Nat, (((⟨b, off, none⟩ : Addr).add (i * K)).add j) = ⟨b, off + i * K + j, none⟩ := fun i j => by
        unfold Addr.add
        by_cases h1 : i * K = 0 <;> by_cases h2 : j = 0 <;> simp [h1, h2]
      have key' : ∀ i, i < n → ∃ x : α, P x ∧ ∀ (j : Nat) (u : Value), (en x)[j]? = some u → W.cell? ⟨b, off + i * K + j, none⟩ = some u := fun i hi => by
        obtain ⟨x, hp, k⟩ := key i hi
        refine ⟨x, hp, fun j u hu => ?_⟩
        have := k j u hu
        rwa [hadd] at this
      have ex : ∃ f : Nat → α, ∀ i, i < n → P (f i) ∧ ∀ (j : Nat) (u : Value), (en (f i))[j]? = some u → W.cell? ⟨b, off + i * K + j, none⟩ = some u :=
        ⟨fun i => if h : i < n then (key' i h).choose else default, fun i hi => by
          have hk := (key' i hi).choose_spec
          simp only [dif_pos hi]
          exact hk⟩
      obtain ⟨f, hf'⟩ := ex
      refine ⟨(List.range n).map f, by simp, fun x hx => ?_, fun _ => ⟨b, off, rfl, ?_, fun i x hx j u hu => ?_⟩, hl, fun h => by cases h⟩
      · obtain ⟨i, hi, rfl⟩ := List.mem_map.1 hx
        exact (hf' i (List.mem_range.1 hi)).1
      · obtain ⟨v0, hv0⟩ : ∃ u, (en (f 0))[0]? = some u := ⟨_, List.getElem?_eq_getElem (by rw [hK]; exact hK0)⟩
        exact lt_of_cell ((hf' 0 (by omega)).2 0 _ hv0)
      · have hi : i < n := by have := (List.getElem?_eq_some_iff.1 hx).1; simpa using this
        rw [List.getElem?_map, List.getElem?_range hi] at hx
        simp at hx
        subst hx
        exact (hf' i hi).2 j u hu
theorem pos_cells {H : Type} {enc : TypeId × Value → H} {W : World} {m : Nat} {v0 v1 : Value} {d : DataW H × List MemPlace} (ht : DataW.trod enc Try.prog W 0 (fun _ => true) true m 37 [v0, v1] = some d) : ∃ z0 z1 : Int, v0 = .int .i64 z0 ∧ v1 = .int .i64 z1 ∧ InB z0 ∧ InB z1 := by
  obtain ⟨xs, m', rfl, _, hcl, hl2, hg⟩ := DataW.trod_struct Try.underlying37 ht
  have g0 : DataW.trod enc Try.prog W 0 (fun _ => true) true m' 3 (([v0, v1].drop 0).take (Try.prog.cellsOf 3)) = xs[0]? := hg 0 _ rfl
  have g1 : DataW.trod enc Try.prog W 0 (fun _ => true) true m' 3 (([v0, v1].drop 1).take (Try.prog.cellsOf 3)) = xs[1]? := hg 1 _ rfl
  have hx2 : xs.length = 2 := hl2
  rw [cInt, List.getElem?_eq_getElem (by omega)] at g0 g1
  obtain ⟨z0, b0, _, w0⟩ := DataW.trod_int Try.underlying3 g0
  obtain ⟨z1, b1, _, w1⟩ := DataW.trod_int Try.underlying3 g1
  simp at b0 b1
  exact ⟨z0, z1, b0, b1, inB_wf w0, inB_wf w1⟩
theorem block_cells {H : Type} {enc : TypeId × Value → H} {W : World} (m : Nat) (cs : List Value) (d : DataW H × List MemPlace) (hl : cs.length = 17) (ht : DataW.trod enc Try.prog W 0 (fun _ => true) true m 39 cs = some d) : ∃ x : Bk, encB x = cs ∧ (InB x.s0 ∧ InB x.o0) := by
  match cs, hl with
  | [v0, v1, v2, v3, v4, v5, v6, v7, v8, v9, v10, v11, v12, v13, v14, v15, v16], _ =>
    obtain ⟨xs, m', rfl, _, hcl, hl2, hg⟩ := DataW.trod_struct Try.underlying39 ht
    have hx3 : xs.length = 12 := hl2
    have g0 : DataW.trod enc Try.prog W 0 (fun _ => true) true m' 26 (([v0, v1, v2, v3, v4, v5, v6, v7, v8, v9, v10, v11, v12, v13, v14, v15, v16].drop 0).take (Try.prog.cellsOf 26)) = xs[0]? := hg 0 _ rfl
    have g1 : DataW.trod enc Try.prog W 0 (fun _ => true) true m' 3 (([v0, v1, v2, v3, v4, v5, v6, v7, v8, v9, v10, v11, v12, v13, v14, v15, v16].drop 1).take (Try.prog.cellsOf 3)) = xs[1]? := hg 1 _ rfl
    have g2 : DataW.trod enc Try.prog W 0 (fun _ => true) true m' 37 (([v0, v1, v2, v3, v4, v5, v6, v7, v8, v9, v10, v11, v12, v13, v14, v15, v16].drop 2).take (Try.prog.cellsOf 37)) = xs[2]? := hg 2 _ rfl
    have g3 : DataW.trod enc Try.prog W 0 (fun _ => true) true m' 37 (([v0, v1, v2, v3, v4, v5, v6, v7, v8, v9, v10, v11, v12, v13, v14, v15, v16].drop 4).take (Try.prog.cellsOf 37)) = xs[3]? := hg 3 _ rfl
    have g4 : DataW.trod enc Try.prog W 0 (fun _ => true) true m' 37 (([v0, v1, v2, v3, v4, v5, v6, v7, v8, v9, v10, v11, v12, v13, v14, v15, v16].drop 6).take (Try.prog.cellsOf 37)) = xs[4]? := hg 4 _ rfl
    have g5 : DataW.trod enc Try.prog W 0 (fun _ => true) true m' 37 (([v0, v1, v2, v3, v4, v5, v6, v7, v8, v9, v10, v11, v12, v13, v14, v15, v16].drop 8).take (Try.prog.cellsOf 37)) = xs[5]? := hg 5 _ rfl
    have g6 : DataW.trod enc Try.prog W 0 (fun _ => true) true m' 37 (([v0, v1, v2, v3, v4, v5, v6, v7, v8, v9, v10, v11, v12, v13, v14, v15, v16].drop 10).take (Try.prog.cellsOf 37)) = xs[6]? := hg 6 _ rfl
    have g7 : DataW.trod enc Try.prog W 0 (fun _ => true) true m' 3 (([v0, v1, v2, v3, v4, v5, v6, v7, v8, v9, v10, v11, v12, v13, v14, v15, v16].drop 12).take (Try.prog.cellsOf 3)) = xs[7]? := hg 7 _ rfl
    have g8 : DataW.trod enc Try.prog W 0 (fun _ => true) true m' 4 (([v0, v1, v2, v3, v4, v5, v6, v7, v8, v9, v10, v11, v12, v13, v14, v15, v16].drop 13).take (Try.prog.cellsOf 4)) = xs[8]? := hg 8 _ rfl
    have g9 : DataW.trod enc Try.prog W 0 (fun _ => true) true m' 4 (([v0, v1, v2, v3, v4, v5, v6, v7, v8, v9, v10, v11, v12, v13, v14, v15, v16].drop 14).take (Try.prog.cellsOf 4)) = xs[9]? := hg 9 _ rfl
    have g10 : DataW.trod enc Try.prog W 0 (fun _ => true) true m' 9 (([v0, v1, v2, v3, v4, v5, v6, v7, v8, v9, v10, v11, v12, v13, v14, v15, v16].drop 15).take (Try.prog.cellsOf 9)) = xs[10]? := hg 10 _ rfl
    have g11 : DataW.trod enc Try.prog W 0 (fun _ => true) true m' 9 (([v0, v1, v2, v3, v4, v5, v6, v7, v8, v9, v10, v11, v12, v13, v14, v15, v16].drop 16).take (Try.prog.cellsOf 9)) = xs[11]? := hg 11 _ rfl
    rw [cU64, List.getElem?_eq_getElem (by omega)] at g0
    rw [cInt, List.getElem?_eq_getElem (by omega)] at g1
    rw [cPos, List.getElem?_eq_getElem (by omega)] at g2
    rw [cPos, List.getElem?_eq_getElem (by omega)] at g3
    rw [cPos, List.getElem?_eq_getElem (by omega)] at g4
    rw [cPos, List.getElem?_eq_getElem (by omega)] at g5
    rw [cPos, List.getElem?_eq_getElem (by omega)] at g6
    rw [cInt, List.getElem?_eq_getElem (by omega)] at g7
    rw [cBool, List.getElem?_eq_getElem (by omega)] at g8
    rw [cBool, List.getElem?_eq_getElem (by omega)] at g9
    rw [cStr, List.getElem?_eq_getElem (by omega)] at g10
    rw [cStr, List.getElem?_eq_getElem (by omega)] at g11
    obtain ⟨z0, b0, _⟩ := DataW.trod_int Try.underlying26 g0
    simp at b0
    subst b0
    obtain ⟨z1, b1, _⟩ := DataW.trod_int Try.underlying3 g1
    simp at b1
    subst b1
    obtain ⟨p2, q2, b2, c2, i2, k2⟩ := pos_cells (v0 := v2) (v1 := v3) g2
    subst b2
    subst c2
    obtain ⟨p3, q3, b3, c3, i3, k3⟩ := pos_cells (v0 := v4) (v1 := v5) g3
    subst b3
    subst c3
    obtain ⟨p4, q4, b4, c4, i4, k4⟩ := pos_cells (v0 := v6) (v1 := v7) g4
    subst b4
    subst c4
    obtain ⟨p5, q5, b5, c5, i5, k5⟩ := pos_cells (v0 := v8) (v1 := v9) g5
    subst b5
    subst c5
    obtain ⟨p6, q6, b6, c6, i6, k6⟩ := pos_cells (v0 := v10) (v1 := v11) g6
    subst b6
    subst c6
    obtain ⟨z7, b7, _⟩ := DataW.trod_int Try.underlying3 g7
    simp at b7
    subst b7
    obtain ⟨z8, b8, _⟩ := DataW.trod_bool Try.underlying4 g8
    simp at b8
    subst b8
    obtain ⟨z9, b9, _⟩ := DataW.trod_bool Try.underlying4 g9
    simp at b9
    subst b9
    obtain ⟨z10, b10, _⟩ := DataW.trod_string Try.underlying9 g10
    simp at b10
    subst b10
    obtain ⟨z11, b11, _⟩ := DataW.trod_string Try.underlying9 g11
    simp at b11
    subst b11
    exact ⟨⟨z0, z1, p2, q2, p3, q3, p4, q4, p5, q5, p6, q6, z7, z8, z9, z10, z11⟩, rfl, i2, i4⟩
/-- A slice of blocks that came in. -/
theorem open_blocks {H : Type} {enc : TypeId × Value → H} {W : World} {A : Option Addr} {n c : Nat} {d : DataW H} {p : List MemPlace} (h : DataW.Trod enc Try.prog W 0 (fun _ => true) true 35 (.slice A n c) d p) :
    ∃ xs : List Bk, n = xs.length ∧ (∀ x ∈ xs, InB x.s0 ∧ InB x.o0) ∧ RK encB 17 W A xs ∧ n ≤ c ∧ (A = none → c = 0) :=
  open_rows encB 17 (by omega) encB_len _ Try.underlying35 cBlock block_cells h

end Go.Proofs.Ytfgnlohnalgnpaa
