/- What the frames of tabs' laws need: the program's own facts; what came in, opened. -/
import Derived.Test.YtabipecpkbjdkaaTp
import Derived.ProofKit
import Derived.OpenShut
import Derived.Deep.Slices
namespace Go.Proofs.Ytabipecpkbjdkaa
open Go.ChangeShapes Go.WideShapes Go.ChangeAt Go.WideMaps Go.WideElems Go.RowKit

theorem own : ownKnob Try.prog.godebug = none := by kernel_rfl
theorem laidOut : laidOutB Try.prog = true := by kernel_rfl
theorem cU16 : Try.prog.cellsOf 22 = 1 := by kernel_rfl
theorem cInt : Try.prog.cellsOf 3 = 1 := by kernel_rfl
theorem cOp : Try.prog.cellsOf 33 = 2 := by kernel_rfl
theorem cArr2 : Try.prog.cellsOf 43 = 2 := by kernel_rfl
theorem lt_of_cell {w : World} {b o : Nat} {v : Value} (h : w.cell? ⟨b, o, none⟩ = some v) : b < w.heap.size := by
  rcases Nat.lt_or_ge b w.heap.size with hl | hl
  · exact hl
  · simp [World.cell?, Array.getElem?_eq_none hl] at h
/-- A slice of numbers of 16 bits that came in. -/
theorem open_u16s {H : Type} {enc : TypeId × Value → H} {W : World} {A : Option Addr} {n c : Nat} {d : DataW H} {p : List MemPlace} (h : DataW.Trod enc Try.prog W 0 (fun _ => true) true 42 (.slice A n c) d p) :
    ∃ xs : List Nat, n = xs.length ∧ RU W W.heap.size A xs := by
  obtain ⟨fuel, hf⟩ := h
  rcases open_ints Try.underlying42 Try.underlying22 cU16 hf with ⟨hcs, _⟩ | ⟨a, len, cap, zs, hcs, _, hl, hm, hz, _, hcell, hw⟩
  · have e : Value.slice A n c = .slice none 0 0 := by simpa [Value.cells] using hcs
    injection e with e1 e2 e3
    subst e1; subst e2; subst e3
    exact ⟨[], rfl, by simp, fun h => absurd rfl h⟩
  · have e : Value.slice A n c = .slice (some a) len cap := by simpa [Value.cells] using hcs
    injection e with e1 e2 e3
    subst e1; subst e2; subst e3
    have hzl : zs.length = c := by simpa using hz
    have hb : ∀ z ∈ zs, 0 ≤ z ∧ z < 65536 := fun z hz => by have := bounds_u16 (hw z hz); omega
    refine ⟨(zs.take n).map Int.toNat, by simp; omega, fun x hx => ?_, fun hne => ?_⟩
    · obtain ⟨z, hz', rfl⟩ := List.mem_map.1 hx
      have := hb z (List.mem_of_mem_take hz')
      omega
    · have hpos : 0 < zs.length := by
        rcases Nat.eq_zero_or_pos zs.length with h0 | h0
        · rw [List.eq_nil_of_length_eq_zero h0] at hne; simp at hne
        · exact h0
      obtain ⟨b, off, rfl, hc⟩ := ints_at hcell hpos
      refine ⟨b, off, rfl, lt_of_cell (hc 0 hpos), fun k hk => ?_⟩
      have hk' : k < n ∧ k < zs.length := by simp at hk; omega
      have hz' := hb zs[k] (List.getElem_mem hk'.2)
      rw [hc k (by omega), List.getElem?_map, List.getElem?_take, if_pos hk'.1, List.getElem?_eq_getElem hk'.2]
      simp only [Option.map_some, Option.getD_some]
      rw [Int.toNat_of_nonneg hz'.1, List.getD_eq_getElem?_getD, List.getElem?_eq_getElem hk'.2]
      rfl
theorem two_of {cs : Array Value} (h : cs.size = 2) : ∃ v0 v1, cs = #[v0, v1] := by
  obtain ⟨l⟩ := cs
  match l, h with
  | [v0, v1], _ => exact ⟨v0, v1, rfl⟩
  | [], h => simp at h
  | [_], h => simp at h
  | _ :: _ :: _ :: _, h => simp at h
/-- Two numbers that came in by value. -/
theorem open_two {H : Type} {enc : TypeId × Value → H} {W : World} {base : Nat} {v : Value} {d : DataW H} {p : List MemPlace} (hv : Value.okWide Try.prog W .any base 43 v) (h : DataW.Trod enc Try.prog W 0 (fun _ => true) true 43 v d p) :
    ∃ a b : Int, v = .agg #[.int .i64 a, .int .i64 b] ∧ b ≤ 9223372036854775807 := by
  simp only [Value.okWide, Try.underlying43] at hv
  obtain ⟨cs, rfl, hsz, _⟩ := hv
  rw [cArr2] at hsz
  obtain ⟨v0, v1, rfl⟩ := two_of hsz
  obtain ⟨fuel, hf⟩ := h
  obtain ⟨xs, m, rfl, _, _, hn, hel⟩ := DataW.trod_array Try.underlying43 hf
  rw [cInt] at hel
  have h0 := hel 0 (by omega)
  have h1 := hel 1 (by omega)
  rw [List.getElem?_eq_getElem (by omega)] at h0 h1
  obtain ⟨z0, b0, _⟩ := DataW.trod_int Try.underlying3 h0
  obtain ⟨z1, b1, b2⟩ := DataW.trod_int Try.underlying3 h1
  simp [Value.cells] at b0 b1
  subst b0; subst b1
  exact ⟨z0, z1, rfl, (bounds_i64 b2.2).2⟩
/-- A slice of calls that came in. -/
theorem open_ops {H : Type} {enc : TypeId × Value → H} {W : World} {A : Option Addr} {n c : Nat} {d : DataW H} {p : List MemPlace} (h : DataW.Trod enc Try.prog W 0 (fun _ => true) true 23 (.slice A n c) d p) :
    ∃ xs : List (Int × Int), n = xs.length ∧ RO W W.heap.size A xs := by
  obtain ⟨fuel, hf⟩ := h
  rcases Go.Deep.open_slice Try.underlying23 hf with ⟨hcs, _⟩ | ⟨a, len, cap, m, n', D, Pl, hcs, _, hl, _, hm, _, hel⟩
  · have e : Value.slice A n c = .slice none 0 0 := by simpa [Value.cells] using hcs
    injection e with e1 e2 e3
    subst e1; subst e2
    exact ⟨[], rfl, fun h => absurd rfl h⟩
  · have e : Value.slice A n c = .slice (some a) len cap := by simpa [Value.cells] using hcs
    injection e with e1 e2 e3
    subst e1; subst e2; subst e3
    rw [cOp] at hel
    have hmc : m = c := by simpa using hm
    have key : ∀ i, i < n → ∃ z0 z1 : Int, W.cell? ((a.add (i * 2)).add 0) = some (.int .i64 z0) ∧ W.cell? ((a.add (i * 2)).add 1) = some (.int .i64 z1) := fun i hi => by
      obtain ⟨cs', hc, ht⟩ := hel i (by omega)
      obtain ⟨xs, m', rfl, _, hcl, hl2, hg⟩ := DataW.trod_struct Try.underlying33 ht
      obtain ⟨_, hlen, hat⟩ := World.cells?_some hc
      have g0 : DataW.trod enc Try.prog W 0 (fun _ => true) true m' 3 ((cs'.drop 0).take (Try.prog.cellsOf 3)) = xs[0]? := hg 0 _ rfl
      have g1 : DataW.trod enc Try.prog W 0 (fun _ => true) true m' 3 ((cs'.drop 1).take (Try.prog.cellsOf 3)) = xs[1]? := hg 1 _ rfl
      have hx2 : xs.length = 2 := hl2
      rw [cInt, List.getElem?_eq_getElem (by omega)] at g0 g1
      match cs', hlen with
      | [v0, v1], _ =>
        obtain ⟨z0, b0, _⟩ := DataW.trod_int Try.underlying3 g0
        obtain ⟨z1, b1, _⟩ := DataW.trod_int Try.underlying3 g1
        simp at b0 b1
        subst b0; subst b1
        exact ⟨z0, z1, hat 0 (by omega), hat 1 (by omega)⟩
    by_cases hn0 : n = 0
    · subst hn0
      exact ⟨[], rfl, fun h => absurd rfl h⟩
    · obtain ⟨b, off, spot⟩ := a
      obtain ⟨z0, z1, k0, _⟩ := key 0 (by omega)
      have hspot : spot = none := by simpa [Addr.add] using World.cell?_spot k0
      subst hspot
      have hadd : ∀ i j : Nat, (((⟨b, off, none⟩ : Addr).add (i * 2)).add j) = ⟨b, off + i * 2 + j, none⟩ := fun i j => by
        unfold Addr.add
        by_cases h1 : i * 2 = 0 <;> by_cases h2 : j = 0 <;> simp [h1, h2]
      have key' : ∀ i, i < n → ∃ z : Int × Int, W.cell? ⟨b, off + i * 2, none⟩ = some (.int .i64 z.1) ∧ W.cell? ⟨b, off + i * 2 + 1, none⟩ = some (.int .i64 z.2) := fun i hi => by
        obtain ⟨z0, z1, k0, k1⟩ := key i hi
        rw [hadd] at k0 k1
        exact ⟨(z0, z1), k0, k1⟩
      have ex : ∃ f : Nat → Int × Int, ∀ i, i < n → W.cell? ⟨b, off + i * 2, none⟩ = some (.int .i64 (f i).1) ∧ W.cell? ⟨b, off + i * 2 + 1, none⟩ = some (.int .i64 (f i).2) :=
        ⟨fun i => if h : i < n then (key' i h).choose else (0, 0), fun i hi => by
          have hk := (key' i hi).choose_spec
          simp only [dif_pos hi]
          exact hk⟩
      obtain ⟨f, hf'⟩ := ex
      refine ⟨(List.range n).map f, by simp, fun _ => ⟨b, off, rfl, lt_of_cell (hf' 0 (by omega)).1, fun k hk => ?_⟩⟩
      have hk' : k < n := by simpa using hk
      rw [List.getElem?_map, List.getElem?_range hk']
      exact hf' k hk'

end Go.Proofs.Ytabipecpkbjdkaa
