/- Rows that came in, opened; the program's own facts. -/
import Derived.Test.YtfjgfmeanehpmaaLb
import Derived.Test.YtfjgfmeanehpmaaHd
import Derived.SizedLaws
namespace Go.Proofs.Ytfjgfmeanehpmaa
open Go.ChangeShapes Go.WideShapes Go.ChangeAt Go.WideMaps Go.WideElems Go.RowKit

set_option maxRecDepth 100000 in
theorem own : ownKnob Try.prog.godebug = none := by kernel_rfl
set_option maxRecDepth 100000 in
theorem laidOut : laidOutB Try.prog = true := by kernel_rfl
set_option maxRecDepth 100000 in
theorem cSlcL : Try.prog.cellsOf 29 = 1 := by kernel_rfl
set_option maxRecDepth 100000 in
theorem cBoolL : Try.prog.cellsOf 4 = 1 := by kernel_rfl
set_option maxRecDepth 100000 in
theorem cRowL : Try.prog.cellsOf 31 = 2 := by kernel_rfl
section
variable {H : Type} {enc : TypeId × Value → H} {W : World} {base : Nat} {keep : Nat → Bool} {b : Bool}
theorem list2 {α : Type} {l : List α} (h : l.length = 2) : ∃ a b, l = [a, b] := by
  match l, h with
  | [a, b], _ => exact ⟨a, b, rfl⟩
/-- A row that came in. -/
theorem rowL {m : Nat} {cs : List Value} {d : DataW H × List MemPlace} (hl : cs.length = 2) (ht : DataW.trod enc Try.prog W base keep b m 31 cs = some d) (hw : ∀ k ∈ d.1.weights Try.prog 31, k ≤ reachBytes) :
    ∃ (Ai : Option Addr) (ci : Nat) (x : Rw), cs = [.slice Ai x.c.length ci, .bool x.k] ∧ x.c.length ≤ ci ∧ x.c.length ≤ 140737488355328 ∧ RC W W.heap.size Ai x.c := by
  obtain ⟨v0, v1, rfl⟩ := list2 hl
  obtain ⟨xs, m', rfl, hd, hcl, hl2, hg⟩ := DataW.trod_struct Try.underlying31 ht
  have g0 : DataW.trod enc Try.prog W base keep b m' 29 (([v0, v1].drop 0).take (Try.prog.cellsOf 29)) = xs[0]? := hg 0 _ rfl
  have g1 : DataW.trod enc Try.prog W base keep b m' 4 (([v0, v1].drop 1).take (Try.prog.cellsOf 4)) = xs[1]? := hg 1 _ rfl
  have hx2 : xs.length = 2 := hl2
  rw [cSlcL, List.getElem?_eq_getElem (by omega)] at g0
  rw [cBoolL, List.getElem?_eq_getElem (by omega)] at g1
  simp only [List.drop_zero, List.drop_succ_cons, List.take_succ_cons, List.take_zero] at g0 g1
  obtain ⟨q, b1, _⟩ := DataW.trod_bool Try.underlying4 g1
  simp at b1
  subst b1
  have hv : ∃ A n c, v0 = .slice A n c := by
    rcases Go.Deep.open_slice Try.underlying29 g0 with ⟨e, _⟩ | ⟨a, len, cap, _, _, _, _, e, _⟩
    · simp at e; exact ⟨_, _, _, e⟩
    · simp at e; exact ⟨_, _, _, e⟩
  obtain ⟨A, n, c, rfl⟩ := hv
  have hx0 : xs[0]? = some xs[0] := List.getElem?_eq_getElem (by omega)
  obtain ⟨l, hn, hnc, _, _, _, hn47, hR⟩ := open_cells (d := (xs[0]'(by omega)).1) (p := (xs[0]'(by omega)).2) (A := A) (n := n) (c := c) ⟨m', by simpa [Value.cells] using g0⟩ (fun k hk => hw k (by
    rw [hd]
    show k ∈ DataW.weights Try.prog 31 (.agg (xs.map (·.1)))
    rw [DataW.weights, Try.underlying31]
    exact DataW.weights_mem_each (j := 0) (t := 29) (d := (xs[0]'(by omega)).1) rfl (by rw [List.getElem?_map, hx0]; rfl) _ hk))
  subst hn
  exact ⟨A, c, ⟨l, q⟩, rfl, hnc, hn47, hR⟩
set_option maxRecDepth 100000 in
/-- A slice of rows that came in. -/
theorem open_rowsR {A : Option Addr} {n c : Nat} {d : DataW H} {p : List MemPlace} (h : DataW.Trod enc Try.prog W base keep b 22 (.slice A n c) d p) (hw : ∀ k ∈ d.weights Try.prog 22, k ≤ reachBytes) :
    ∃ L : List Rw, n = L.length ∧ n ≤ c ∧ n ≤ 140737488355328 ∧ (∀ i, i < n → (Ar L i).c.length ≤ 140737488355328) ∧ RR W A L := by
  obtain ⟨fuel, hf⟩ := h
  rcases open_rows Try.underlying22 cRowL (by omega) hf with ⟨rfl, rfl, rfl, _⟩ | ⟨bk, off, sp, rfl, hnc, _, V, D, S, fu, hx, hel⟩
  · exact ⟨[], rfl, Nat.le_refl _, by omega, fun i hi => by omega, fun h => absurd rfl h⟩
  · have hx : d = .slice ((List.range n).map D) S := hx
    have hr47 : reachBytes < 140737488355328 := reachBytes_lt
    have hwt : ∀ k ∈ DataW.weights Try.prog 22 (.slice ((List.range n).map D) S), k ≤ reachBytes := hx ▸ hw
    rw [DataW.weights, Try.underlying22] at hwt
    have key : ∀ i, i < n → ∃ (x : Rw), ∃ (Ai : Option Addr) (ci : Nat), V i = [.slice Ai x.c.length ci, .bool x.k] ∧ x.c.length ≤ ci ∧ x.c.length ≤ 140737488355328 ∧ RC W W.heap.size Ai x.c := fun i hi => by
      obtain ⟨_, hlen, _, _, p, hp⟩ := hel i hi
      obtain ⟨Ai, ci, x, e, h1, h2, h3⟩ := rowL hlen hp (fun k hk => hwt k (List.mem_cons_of_mem _ (List.mem_append_left _ (weightsAll_mem (List.mem_map.2 ⟨i, List.mem_range.2 hi, rfl⟩) _ hk))))
      exact ⟨x, Ai, ci, e, h1, h2, h3⟩
    obtain ⟨f, hf'⟩ : ∃ f : Nat → Rw, ∀ i, i < n → ∃ (Ai : Option Addr) (ci : Nat), V i = [.slice Ai (f i).c.length ci, .bool (f i).k] ∧ (f i).c.length ≤ ci ∧ (f i).c.length ≤ 140737488355328 ∧ RC W W.heap.size Ai (f i).c :=
      ⟨fun i => if hi : i < n then (key i hi).choose else ⟨[], false⟩, fun i hi => by
        have hk := (key i hi).choose_spec
        simp only [dif_pos hi]
        exact hk⟩
    have hAr : ∀ k, k < n → Ar ((List.range n).map f) k = f k := fun k hk => by
      unfold Ar
      rw [List.getElem?_map, List.getElem?_range hk]
      rfl
    refine ⟨(List.range n).map f, by simp, hnc, ?_, fun i hi => ?_, fun hne => ?_⟩
    · have h1 := hwt _ (List.mem_cons_self ..)
      have h32 : Try.prog.bytesOf 31 = 32 := by kernel_rfl
      rw [List.length_map, List.length_range, h32] at h1
      omega
    · rw [hAr i hi]
      obtain ⟨_, _, _, _, h2, _⟩ := hf' i hi
      exact h2
    · have hn0 : 0 < n := by
        rcases Nat.eq_zero_or_pos n with h0 | h0
        · subst h0; exact absurd rfl hne
        · exact h0
      obtain ⟨rfl, _, _, hlt, _⟩ := hel 0 hn0
      refine ⟨bk, off, rfl, hlt, fun k hk => ?_⟩
      have hk' : k < n := by simpa using hk
      rw [hAr k hk']
      obtain ⟨Ai, ci, hV, h1, h2, h3⟩ := hf' k hk'
      obtain ⟨_, _, hat, _⟩ := hel k hk'
      exact ⟨Ai, ci, hat 0 _ (by rw [hV]; rfl), hat 1 _ (by rw [hV]; rfl), h3, h1⟩
end
/-- Two numbers of any sign. -/
def encPI (p : Int × Int) : List Value := [.int .i64 p.1, .int .i64 p.2]
set_option maxRecDepth 100000 in
theorem cPosL : Try.prog.cellsOf 39 = 2 := by kernel_rfl
section
variable {H : Type} {enc : TypeId × Value → H} {W : World} {base : Nat} {keep : Nat → Bool} {b : Bool}
theorem posL {m : Nat} {cs : List Value} {d : DataW H × List MemPlace} (hl : cs.length = 2) (ht : DataW.trod enc Try.prog W base keep b m 39 cs = some d) : ∃ x : Int × Int, cs = encPI x := by
  obtain ⟨v0, v1, rfl⟩ := list2 hl
  obtain ⟨xs, m', rfl, _, hcl, hl2, hg⟩ := DataW.trod_struct Try.underlying39 ht
  have g0 : DataW.trod enc Try.prog W base keep b m' 3 (([v0, v1].drop 0).take (Try.prog.cellsOf 3)) = xs[0]? := hg 0 _ rfl
  have g1 : DataW.trod enc Try.prog W base keep b m' 3 (([v0, v1].drop 1).take (Try.prog.cellsOf 3)) = xs[1]? := hg 1 _ rfl
  have hx2 : xs.length = 2 := hl2
  rw [cIntL, List.getElem?_eq_getElem (by omega)] at g0 g1
  obtain ⟨z0, b0, _⟩ := DataW.trod_int Try.underlying3 g0
  obtain ⟨z1, b1, _⟩ := DataW.trod_int Try.underlying3 g1
  simp at b0 b1
  subst b0; subst b1
  exact ⟨(z0, z1), rfl⟩
end
/-- A place that came in by value. -/
theorem open_posF {H : Type} {enc : TypeId × Value → H} {W : World} {base : Nat} {v : Value} {d : DataW H} {p : List MemPlace} (hv : Value.okWide Try.prog W .any base 39 v) (h : DataW.Trod enc Try.prog W 0 (fun _ => true) true 39 v d p) :
    ∃ a b : Int, v = .agg #[.int .i64 a, .int .i64 b] := by
  obtain ⟨cs, rfl, hsz⟩ := okWide_struct Try.underlying39 hv
  rw [cPosL] at hsz
  obtain ⟨fuel, hf⟩ := h
  obtain ⟨l⟩ := cs
  obtain ⟨x, hx⟩ := posL (by simpa using hsz) (show DataW.trod enc Try.prog W 0 (fun _ => true) true fuel 39 l = some (d, p) from by simpa [Value.cells] using hf)
  subst hx
  exact ⟨x.1, x.2, rfl⟩
set_option maxRecDepth 100000 in
theorem cTwoPosL : Try.prog.cellsOf 59 = 4 := by kernel_rfl
theorem list4 {α : Type} {l : List α} (h : l.length = 4) : ∃ a b c d, l = [a, b, c, d] := by
  match l, h with
  | [a, b, c, d], _ => exact ⟨a, b, c, d, rfl⟩
/-- Two places that came in by value. -/
theorem open_twopos {H : Type} {enc : TypeId × Value → H} {W : World} {base : Nat} {v : Value} {d : DataW H} {p : List MemPlace} (hv : Value.okWide Try.prog W .any base 59 v) (h : DataW.Trod enc Try.prog W 0 (fun _ => true) true 59 v d p) :
    ∃ a b c e : Int, v = .agg #[.int .i64 a, .int .i64 b, .int .i64 c, .int .i64 e] := by
  simp only [Value.okWide, Try.underlying59] at hv
  obtain ⟨cs, rfl, hsz, _⟩ := hv
  rw [cTwoPosL] at hsz
  obtain ⟨fuel, hf⟩ := h
  obtain ⟨l⟩ := cs
  obtain ⟨v0, v1, v2, v3, rfl⟩ := list4 (by simpa using hsz)
  obtain ⟨xs, m, rfl, _, _, hn, hel⟩ := DataW.trod_array Try.underlying59 hf
  rw [cPosL] at hel
  have h0 := hel 0 (by omega)
  have h1 := hel 1 (by omega)
  rw [List.getElem?_eq_getElem (by omega)] at h0 h1
  obtain ⟨x, hx⟩ := posL (by simp [Value.cells]) h0
  obtain ⟨y, hy⟩ := posL (by simp [Value.cells]) h1
  simp [Value.cells, encPI] at hx hy
  obtain ⟨rfl, rfl⟩ := hx
  obtain ⟨rfl, rfl⟩ := hy
  exact ⟨x.1, x.2, y.1, y.2, rfl⟩
set_option maxRecDepth 100000 in
/-- A slice of places that came in. -/
theorem open_possF {H : Type} {enc : TypeId × Value → H} {W : World} {base : Nat} {keep : Nat → Bool} {b : Bool} {A : Option Addr} {n c : Nat} {d : DataW H} {p : List MemPlace} (h : DataW.Trod enc Try.prog W base keep b 43 (.slice A n c) d p) :
    ∃ l : List (Int × Int), n = l.length ∧ n ≤ c ∧ RK encPI 2 W A l := by
  obtain ⟨fuel, hf⟩ := h
  rcases open_rows Try.underlying43 cPosL (by omega) hf with ⟨rfl, rfl, rfl, _⟩ | ⟨bk, off, sp, rfl, hnc, _, V, D, S, fu, hx, hel⟩
  · exact ⟨[], rfl, Nat.le_refl _, fun h => absurd rfl h⟩
  · obtain ⟨f, hf'⟩ : ∃ f : Nat → Int × Int, ∀ i, i < n → V i = encPI (f i) := by
      have key : ∀ i, i < n → ∃ y : Int × Int, V i = encPI y := fun i hi => by
        obtain ⟨_, hlen, _, _, p, hp⟩ := hel i hi
        exact posL hlen hp
      exact ⟨fun i => if hi : i < n then (key i hi).choose else (0, 0), fun i hi => by
        have hk := (key i hi).choose_spec
        simp only [dif_pos hi]
        exact hk⟩
    refine ⟨(List.range n).map f, by simp, hnc, fun hne => ?_⟩
    have hn0 : 0 < n := by
      rcases Nat.eq_zero_or_pos n with h0 | h0
      · subst h0; exact absurd rfl hne
      · exact h0
    obtain ⟨rfl, _, _, hlt, _⟩ := hel 0 hn0
    refine ⟨bk, off, rfl, hlt, fun k x hx j u hj => ?_⟩
    have hk' : k < n := by have := (List.getElem?_eq_some_iff.1 hx).1; simpa using this
    rw [List.getElem?_map, List.getElem?_range hk'] at hx
    cases hx
    obtain ⟨_, _, hat, _⟩ := hel k hk'
    exact hat j u (by rw [hf' k hk']; exact hj)
end Go.Proofs.Ytfjgfmeanehpmaa
