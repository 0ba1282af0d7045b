/- The walk of Push. -/
import Derived.Test.YtehfejgalemhaaaNc
import Derived.Laws.ResultCell
namespace Go.Proofs.Ytehfejgalemhaaa
open Go.RowKit

theorem OR.tail {w : World} {n g off c : Nat} {a b : Value} {xs : List Value} (h : OR w (.slice (some ⟨g, off, none⟩) (n + 1) c) (n + 1) (a :: b :: xs)) : OR w (.slice (some ⟨g, off + 2, none⟩) n (c - 1)) n xs := by
  rcases h.2 with ⟨h0, _⟩ | ⟨g', off', cap, cur, e, hh, h1, h2, h3, hr⟩
  · simp at h0
  · simp only [Value.slice.injEq, Option.some.injEq, Addr.mk.injEq, and_true, true_and] at e
    obtain ⟨⟨rfl, rfl⟩, rfl⟩ := e
    refine ⟨by have := h.1; simp at this; omega, .inr ⟨g, off + 2, c - 1, cur, rfl, hh, by omega, by omega, by omega, fun j u hu => ?_⟩⟩
    have := hr (j + 2) u (by simpa using hu)
    rwa [show off + (j + 2) = off + 2 + j from by omega] at this
/-- A slot ahead of the rows is written. -/
theorem OR.before {w : World} {n g off c : Nat} {xs : List Value} (h : OR w (.slice (some ⟨g, off, none⟩) n c) n xs) (k : Nat) (v : Value) (hk : xs = [] ∨ k < off) : OR (w.setCell ⟨g, k, none⟩ v) (.slice (some ⟨g, off, none⟩) n c) n xs := by
  refine ⟨h.1, ?_⟩
  rcases h.2 with hn | ⟨g', off', cap, cur, e, hh, h1, h2, h3, hr⟩
  · exact .inl hn
  · simp only [Value.slice.injEq, Option.some.injEq, Addr.mk.injEq, and_true, true_and] at e
    obtain ⟨⟨rfl, rfl⟩, rfl⟩ := e
    refine .inr ⟨g, off, c, _, rfl, heap_setCell_same w g k cur _ v hh, h1, h2, by simpa using h3, fun j u hu => ?_⟩
    rcases hk with rfl | hk
    · simp at hu
    rw [World.cell?_setCell_other _ _ _ _ (by simp <;> omega)]
    exact hr j u hu
/-- The first row's slots are written over, and it is left out. -/
theorem RM.evict {P : Nat → Prop} {w : World} {D n g off c room : Nat} {gone : Int} {L : List (Int × Bool)} {a b : Value} {xs : List Value} {r : Int × Bool} (h : RM P w D (.slice (some ⟨g, off, none⟩) (n + 1) c) room gone (r :: L) (a :: b :: xs)) (hn : n = L.length) (off' c' : Nat) (hrow : OR w (.slice (some ⟨g, off', none⟩) L.length c') L.length xs) (hoff : xs = [] ∨ off + 2 ≤ off') (o : Obj) (gone' : Int) (x y x3 x4 : Value) (N : Nat) (hND : N ≠ D) (hNg : N ≠ g) {p q : Value} (hNt : w.heap[N]? = some (.cells #[p, q] 43 (0, 0))) :
    RM P (((((((w.setCell ⟨g, off, none⟩ x).setCell ⟨g, off + 1, none⟩ y).setCell ⟨D, 0, none⟩ (.slice (some ⟨g, off', none⟩) L.length c')).setCell ⟨D, 2, none⟩ (.int .u64 gone')).setCell ⟨N, 0, none⟩ x3).setCell ⟨N, 1, none⟩ x4).alloc o) D (.slice (some ⟨g, off', none⟩) L.length c') room gone' L xs ∧
    RV P (((((((w.setCell ⟨g, off, none⟩ x).setCell ⟨g, off + 1, none⟩ y).setCell ⟨D, 0, none⟩ (.slice (some ⟨g, off', none⟩) L.length c')).setCell ⟨D, 2, none⟩ (.int .u64 gone')).setCell ⟨N, 0, none⟩ x3).setCell ⟨N, 1, none⟩ x4).alloc o) a b r ∧
    KB (fun i => i = D ∨ i = g ∨ i = N) w (((((((w.setCell ⟨g, off, none⟩ x).setCell ⟨g, off + 1, none⟩ y).setCell ⟨D, 0, none⟩ (.slice (some ⟨g, off', none⟩) L.length c')).setCell ⟨D, 2, none⟩ (.int .u64 gone')).setCell ⟨N, 0, none⟩ x3).setCell ⟨N, 1, none⟩ x4).alloc o) ∧
    (((((((w.setCell ⟨g, off, none⟩ x).setCell ⟨g, off + 1, none⟩ y).setCell ⟨D, 0, none⟩ (.slice (some ⟨g, off', none⟩) L.length c')).setCell ⟨D, 2, none⟩ (.int .u64 gone')).setCell ⟨N, 0, none⟩ x3).setCell ⟨N, 1, none⟩ x4).alloc o).cell? ⟨N, 0, none⟩ = some x3 ∧ (((((((w.setCell ⟨g, off, none⟩ x).setCell ⟨g, off + 1, none⟩ y).setCell ⟨D, 0, none⟩ (.slice (some ⟨g, off', none⟩) L.length c')).setCell ⟨D, 2, none⟩ (.int .u64 gone')).setCell ⟨N, 0, none⟩ x3).setCell ⟨N, 1, none⟩ x4).alloc o).cell? ⟨N, 1, none⟩ = some x4 := by
  subst hn
  have hne := h.ne g rfl
  -- the two slots ahead of the rows
  have h1 : OR (w.setCell ⟨g, off, none⟩ x) (.slice (some ⟨g, off', none⟩) L.length c') L.length xs := hrow.before off x (hoff.imp id fun _ => by omega)
  have h2 : OR ((w.setCell ⟨g, off, none⟩ x).setCell ⟨g, off + 1, none⟩ y) (.slice (some ⟨g, off', none⟩) L.length c') L.length xs := h1.before (off + 1) y (hoff.imp id fun _ => by omega)
  have k1 : KB (fun i => i = D ∨ i = g ∨ i = N) w ((w.setCell ⟨g, off, none⟩ x).setCell ⟨g, off + 1, none⟩ y) := (KB.set (S := fun i => i = D ∨ i = g ∨ i = N) off x (.inr (.inl rfl))).trans (KB.set (S := fun i => i = D ∨ i = g ∨ i = N) (off + 1) y (.inr (.inl rfl))) fun _ _ e => e
  have hD : ((w.setCell ⟨g, off, none⟩ x).setCell ⟨g, off + 1, none⟩ y).heap[D]? = _ := ((heap_setCell_other _ ⟨g, off + 1, none⟩ D y (fun e => hne e.symm)).trans (heap_setCell_other _ ⟨g, off, none⟩ D x (fun e => hne e.symm))).trans h.d
  have hD1 := (heap_set_ring hD (.slice (some ⟨g, off', none⟩) L.length c')).1
  have hD2 := (heap_set_ring hD1 (.int .u64 gone')).2
  generalize hW : (w.setCell ⟨g, off, none⟩ x).setCell ⟨g, off + 1, none⟩ y = W at *
  have k2 : KB (fun i => i = D ∨ i = g ∨ i = N) W ((W.setCell ⟨D, 0, none⟩ (.slice (some ⟨g, off', none⟩) L.length c')).setCell ⟨D, 2, none⟩ (.int .u64 gone')) := (KB.set (S := fun i => i = D ∨ i = g ∨ i = N) 0 _ (.inl rfl)).trans (KB.set (S := fun i => i = D ∨ i = g ∨ i = N) 2 _ (.inl rfl)) fun _ _ e => e
  generalize hV : (W.setCell ⟨D, 0, none⟩ (.slice (some ⟨g, off', none⟩) L.length c')).setCell ⟨D, 2, none⟩ (.int .u64 gone') = V at *
  have k3 : KB (fun i => i = D ∨ i = g ∨ i = N) V (((V.setCell ⟨N, 0, none⟩ x3).setCell ⟨N, 1, none⟩ x4).alloc o) := ((KB.set (S := fun i => i = D ∨ i = g ∨ i = N) 0 _ (.inr (.inr rfl))).trans (KB.set (S := fun i => i = D ∨ i = g ∨ i = N) 1 _ (.inr (.inr rfl))) fun _ _ e => e).trans (KB.of_below ((Below.refl _ _).alloc (Nat.le_refl _) o)) fun _ _ e => e
  have kall := (k1.trans k2 fun _ _ e => e).trans k3 fun _ _ e => e
  have hnc : NC (fun i => i = D ∨ i = g ∨ i = N) P w := fun i cur' hi hS hp hc => by
    rcases hS with rfl | rfl | rfl
    · exact h.nc P i cur' hi (.inl rfl) hp hc
    · exact h.nc P i cur' hi (.inr rfl) hp hc
    · rw [hNt] at hc
      injection hc with hc
      injection hc with _ e _
      exact absurd e (by decide)
  have kN : KB (fun i => i = N) V (((V.setCell ⟨N, 0, none⟩ x3).setCell ⟨N, 1, none⟩ x4).alloc o) := ((KB.set (S := fun i => i = N) 0 _ rfl).trans (KB.set (S := fun i => i = N) 1 _ rfl) fun _ _ e => e).trans (KB.of_below ((Below.refl _ _).alloc (Nat.le_refl _) o)) fun _ _ e => e
  have kD : KB (fun i => i = D) W V := by
    subst hV
    exact (KB.set (S := fun i => i = D) 0 _ rfl).trans (KB.set (S := fun i => i = D) 2 _ rfl) fun _ _ e => e
  have kDg : KB (fun i => i = D ∨ i = g) w V := by
    subst hV; subst hW
    exact (((KB.set (S := fun i => i = D ∨ i = g) off x (.inr rfl)).trans (KB.set (S := fun i => i = D ∨ i = g) (off + 1) y (.inr rfl)) fun _ _ e => e).trans (KB.set (S := fun i => i = D ∨ i = g) 0 _ (.inl rfl)) fun _ _ e => e).trans (KB.set (S := fun i => i = D ∨ i = g) 2 _ (.inl rfl)) fun _ _ e => e
  have hNV : V.heap[N]? = some (.cells #[p, q] 43 (0, 0)) := (kDg.block N (Array.getElem?_eq_some_iff.1 hNt).1 (fun e => e.elim hND hNg)).trans hNt
  have hN2 : (((V.setCell ⟨N, 0, none⟩ x3).setCell ⟨N, 1, none⟩ x4).alloc o).heap[N]? = some (.cells #[x3, x4] 43 (0, 0)) :=
    (heap_alloc_old _ o (by rw [World.size_setCell, World.size_setCell]; exact (Array.getElem?_eq_some_iff.1 hNV).1)).trans (heap_setCell_same _ N 1 _ _ x4 (heap_setCell_same V N 0 _ _ x3 hNV))
  refine ⟨⟨?_, ?_, h.each.2.map fun _ _ _ hr => hr.kept kall hnc⟩, h.each.1.kept kall hnc, kall, cell_of_row _ _ 0 _ _ _ hN2, cell_of_row _ _ 1 _ _ _ hN2⟩
  · exact (kN.block D (by have := kall.size; have := k1.size; have := k2.size; have := h.lt; omega) (fun e => hND e.symm)).trans hD2
  · refine (h2.kept kD (fun g' e e2 => ?_)).kept kN (fun g' e e2 => ?_)
    · simp [Value.ownBlock] at e
      exact hne (e.trans e2)
    · simp [Value.ownBlock] at e
      exact hNg (e.trans e2).symm
/-- Behind a slice [1:]. -/
theorem OR.tail1 {w : World} {n g off : Nat} {a b : Value} {xs : List Value} (h : OR w (.slice (some ⟨g, off, none⟩) (n + 1) 1) (n + 1) (a :: b :: xs)) : xs = [] ∧ n = 0 ∧ OR w (.slice (some ⟨g, off, none⟩) n 0) n xs := by
  rcases h.2 with ⟨h0, _⟩ | ⟨g', off', cap, cur, e, hh, h1, h2, h3, hr⟩
  · simp at h0
  · simp only [Value.slice.injEq, Option.some.injEq, Addr.mk.injEq, and_true, true_and] at e
    obtain ⟨⟨rfl, rfl⟩, rfl⟩ := e
    obtain rfl : n = 0 := by omega
    have hx : xs = [] := by have := h.1; simpa using this
    subst hx
    exact ⟨rfl, rfl, rfl, .inr ⟨g, off, 0, cur, rfl, hh, Nat.le_refl _, by unfold maxLen; omega, by omega, fun j u hu => by simp at hu⟩⟩
/-- What a call returns whose first result is a row in a box. -/
theorem res_row {fn : Func} {p u : Tmp} (h : fn.results = #[.cell p 43, .tmp u]) (tmps : Array Value) (W : World) (M : Nat) (a b : Value) (ok : Bool) (hp : tmps.getD p undef = .pointer (some ⟨M, 0, none⟩)) (hu : tmps.getD u undef = .bool ok) (c0 : W.cell? ⟨M, 0, none⟩ = some a) (c1 : W.cell? ⟨M, 1, none⟩ = some b) :
    (results fn tmps).run Try.prog W = .ok (.tuple #[.agg #[a, b], .bool ok]) W := by
  rw [results_cell_tmp h, hp, hu]
  simp [go_sem, c0, c1]
end Go.Proofs.Ytehfejgalemhaaa
