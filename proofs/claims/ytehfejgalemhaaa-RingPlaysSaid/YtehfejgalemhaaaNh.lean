/- The walks of ref09's Same, where both are the same rows, and of one. -/
import Derived.Test.YtehfejgalemhaaaNg
namespace Go.Proofs.Ytehfejgalemhaaa
open Go.RowKit

/-- The slice '.slice A L.length c' reads as the rows L. -/
def RA (P : Nat → Prop) (w : World) (A : Option Addr) (L : List (Option (Int × Bool))) : Prop :=
  L ≠ [] → ∃ g off, A = some ⟨g, off, none⟩ ∧ g < w.heap.size ∧ ∀ i, i < L.length → ∃ u v, w.cell? ⟨g, off + i * 2, none⟩ = some u ∧ w.cell? ⟨g, off + i * 2 + 1, none⟩ = some v ∧ RVo P w u v (L[i]?.getD none)
theorem RA.past {P : Nat → Prop} {w w' : World} {A : Option Addr} {L : List (Option (Int × Bool))} (h : RA P w A L) (hb : Below w.heap.size w w') : RA P w' A L := fun hne => by
  obtain ⟨g, off, rfl, hlt, hc⟩ := h hne
  refine ⟨g, off, rfl, Nat.lt_of_lt_of_le hlt hb.size, fun i hi => ?_⟩
  obtain ⟨u, v, h1, h2, h3⟩ := hc i hi
  exact ⟨u, v, (hb.cell (p := ⟨g, off + i * 2, none⟩) hlt).trans h1, (hb.cell (p := ⟨g, off + i * 2 + 1, none⟩) hlt).trans h2, h3.past hb⟩
theorem RA.of_rows {P : Nat → Prop} {w : World} {A : Option Addr} {n c : Nat} {xs : List Value} {L : List (Int × Bool)} (h : OR w (.slice A n c) n xs) (hr : RS P w xs L) (hn : n = L.length) : RA P w A (L.map some) := fun hne => by
  subst hn
  rcases h.2 with ⟨h1, h2⟩ | ⟨g, off, cap, cur, e, hh, _, _, _, hc⟩
  · exact absurd (by have : L = [] := List.eq_nil_of_length_eq_zero h2; rw [this]; rfl) hne
  · injection e with e1 _ _
    refine ⟨g, off, e1, (Array.getElem?_eq_some_iff.1 hh).1, fun i hi => ?_⟩
    have hi' : i < L.length := by simpa using hi
    obtain ⟨u, v, h1, h2, h3⟩ := hr.at i hi'
    refine ⟨u, v, hc _ _ h1, ?_, ?_⟩
    · have := hc _ _ h2
      rwa [← Nat.add_assoc] at this
    · rw [List.getElem?_map]
      rw [List.getElem?_eq_getElem hi'] at h3 ⊢
      exact h3
theorem RA.one {P : Nat → Prop} {w' : World} {u v : Value} {o : Option (Int × Bool)} {t : TypeId} {N : Nat} (h : RVo P w' u v o) (hN : w'.heap[N]? = some (.cells #[u, v] t (0, 0))) : RA P w' (some ⟨N, 0, none⟩) [o] := fun _ => by
  refine ⟨N, 0, rfl, (Array.getElem?_eq_some_iff.1 hN).1, fun i hi => ?_⟩
  have hi0 : i = 0 := by simpa using hi
  subst hi0
  exact ⟨u, v, cell_of_row _ _ 0 _ _ _ hN, cell_of_row _ _ 1 _ _ _ hN, h⟩
def contO : Option (Int × Bool) → Bool
  | none => false
  | some r => r.2
theorem RVo.cont {P : Nat → Prop} {w : World} {u v : Value} {o : Option (Int × Bool)} (h : RVo P w u v o) : v = .bool (contO o) ∧ ∃ A n c, u = .slice A n c := by
  cases o with
  | none => exact ⟨h.2, none, 0, 0, h.1⟩
  | some r => obtain ⟨b, c, h1, h2, _⟩ := RV.cells h; exact ⟨h2, _, _, _, h1⟩
theorem same7_any {P P' : Nat → Prop} (u u2 v v2 : Value) (o : Option (Int × Bool)) (w : World) (h : RVo P w u u2 o) (h' : RVo P' w v v2 o) :
    Calls Try.prog 28 #[u, v] w fun e w' => e = .returned (.bool true) ∧ Below w.heap.size w w' := by
  cases o with
  | none =>
    obtain ⟨rfl, _⟩ := h
    obtain ⟨rfl, _⟩ := h'
    exact same7_none w
  | some r => exact (same7_some u u2 v v2 r r w h h').mono fun e w' he => by simpa using he

theorem four_step {wr W W' : World} {a1 a2 a3 a4 : Addr} {v1 v2 v3 v4 : Value} (h : (W.cell? a1 = some v1 ∧ W.cell? a2 = some v2 ∧ W.cell? a3 = some v3 ∧ W.cell? a4 = some v4) ∧ (a1.block < W.heap.size ∧ a2.block < W.heap.size ∧ a3.block < W.heap.size ∧ a4.block < W.heap.size) ∧ Below wr.heap.size wr W) (hb : Below W.heap.size W W') :
    (W'.cell? a1 = some v1 ∧ W'.cell? a2 = some v2 ∧ W'.cell? a3 = some v3 ∧ W'.cell? a4 = some v4) ∧ (a1.block < W'.heap.size ∧ a2.block < W'.heap.size ∧ a3.block < W'.heap.size ∧ a4.block < W'.heap.size) ∧ Below wr.heap.size wr W' := by
  obtain ⟨⟨e1, e2, e3, e4⟩, ⟨l1, l2, l3, l4⟩, hB⟩ := h
  have hs := hb.size
  exact ⟨⟨(hb.cell l1).trans e1, (hb.cell l2).trans e2, (hb.cell l3).trans e3, (hb.cell l4).trans e4⟩, ⟨by omega, by omega, by omega, by omega⟩, bel0 hB hb⟩

theorem four_below {wr W : World} {a1 a2 a3 a4 : Addr} {v1 v2 v3 v4 : Value} (h : (W.cell? a1 = some v1 ∧ W.cell? a2 = some v2 ∧ W.cell? a3 = some v3 ∧ W.cell? a4 = some v4) ∧ (a1.block < W.heap.size ∧ a2.block < W.heap.size ∧ a3.block < W.heap.size ∧ a4.block < W.heap.size) ∧ Below wr.heap.size wr W) : Below wr.heap.size wr W := h.2.2
set_option maxRecDepth 100000 in
set_option maxHeartbeats 4000000 in
theorem same9_any {P P' : Nat → Prop} (A A' : Option Addr) (L : List (Option (Int × Bool))) (n c c' : Nat) (hn : n = L.length) (hl : n ≤ 1000000000) (w : World) (h : RA P w A L) (h' : RA P' w A' L) :
    Calls Try.prog 13 #[.slice A n c, .slice A' n c'] w fun e w' => e = .returned (.bool true) ∧ Below w.heap.size w w' := by
  have HN := Lib.hid hn
  have HR := Lib.hid h
  have HR' := Lib.hid h'
  clear h h' hn
  go_enter Try.func13, Try.ntmps13
  go_wp2
  go_loopw [5] (fun i wr => ∃ k : Nat, k ≤ n ∧ i = .int .i64 k ∧ Hid (Below w.heap.size w wr)) (fun i _ => n - (intOf i).toNat)
  case atStart => exact ⟨0, Nat.zero_le _, rfl, Lib.hid (Below.refl _ _)⟩
  case round =>
    obtain ⟨k, hk, rfl, hB⟩ := hrel
    by_cases hlt : k < n
    · have hne : L ≠ [] := fun e => by have := HN.out; rw [e] at this; simp at this; omega
      obtain ⟨g, off, e, hglt, hc⟩ := (HR.out.past hB.out) hne
      obtain ⟨g', off', e', hglt', hc'⟩ := (HR'.out.past hB.out) hne
      subst e; subst e'
      obtain ⟨u, v, a1, a2, a3⟩ := hc k (HN.out ▸ hlt)
      obtain ⟨u', v', k1, k2, k3⟩ := hc' k (HN.out ▸ hlt)
      clear hc hc' HR HR' HN hne
      obtain ⟨rfl, Au, nu, cu, rfl⟩ := a3.cont
      obtain ⟨rfl, Av, nv, cv, rfl⟩ := k3.cont
      have hli : (k : Int) < n := by omega
      have HS : Hid (∀ W, Below wr.heap.size wr W → Calls Try.prog 28 #[.slice Au nu cu, .slice Av nv cv] W fun e w' => e = .returned (.bool true) ∧ Below W.heap.size W w') := Lib.hid fun W hW => same7_any _ _ _ _ _ W (a3.past hW) (k3.past hW)
      generalize contO (L[k]?.getD none) = q at *
      have hS : (wr.cell? ⟨g, off + k * 2, none⟩ = some (.slice Au nu cu) ∧ wr.cell? ⟨g, off + k * 2 + 1, none⟩ = some (.bool q) ∧ wr.cell? ⟨g', off' + k * 2, none⟩ = some (.slice Av nv cv) ∧ wr.cell? ⟨g', off' + k * 2 + 1, none⟩ = some (.bool q)) ∧ (g < wr.heap.size ∧ g < wr.heap.size ∧ g' < wr.heap.size ∧ g' < wr.heap.size) ∧ Below wr.heap.size wr wr := ⟨⟨a1, a2, k1, k2⟩, ⟨hglt, hglt, hglt', hglt'⟩, Below.refl _ _⟩
      have HBn : Hid (Below w.heap.size w wr) := Lib.hid hB.out
      clear a1 a2 a3 k1 k2 k3 hglt hglt' hB
      have hSd := four_step (a1 := ⟨g, off + k * 2, none⟩) (a2 := ⟨g, off + k * 2 + 1, none⟩) (a3 := ⟨g', off' + k * 2, none⟩) (a4 := ⟨g', off' + k * 2 + 1, none⟩) hS ((Below.refl wr.heap.size wr).drew)
      go_wp2
      go_region_held3 (fun W => (W.cell? ⟨g, off + k * 2, none⟩ = some (.slice Au nu cu) ∧ W.cell? ⟨g, off + k * 2 + 1, none⟩ = some (.bool q) ∧ W.cell? ⟨g', off' + k * 2, none⟩ = some (.slice Av nv cv) ∧ W.cell? ⟨g', off' + k * 2 + 1, none⟩ = some (.bool q)) ∧ (g < W.heap.size ∧ g < W.heap.size ∧ g' < W.heap.size ∧ g' < W.heap.size) ∧ Below wr.heap.size wr W)
        (first | exact hSd | exact four_step (a1 := ⟨g, off + k * 2, none⟩) (a2 := ⟨g, off + k * 2 + 1, none⟩) (a3 := ⟨g', off' + k * 2, none⟩) (a4 := ⟨g', off' + k * 2 + 1, none⟩) hSd hb6 | exact four_step (a1 := ⟨g, off + k * 2, none⟩) (a2 := ⟨g, off + k * 2 + 1, none⟩) (a3 := ⟨g', off' + k * 2, none⟩) (a4 := ⟨g', off' + k * 2 + 1, none⟩) (by assumption) hb6)
        (first
          | (go_at_call 28; (with_reducible refine (HS.out _ ?_).mono ?_); (first | exact hSd.2.2 | exact four_below (by assumption)); rintro e6 w6 ⟨rfl, hb6⟩))
      have HBN := Lib.hid (bel0 HBn.out (four_below (a1 := ⟨g, off + k * 2, none⟩) (a2 := ⟨g, off + k * 2 + 1, none⟩) (a3 := ⟨g', off' + k * 2, none⟩) (a4 := ⟨g', off' + k * 2 + 1, none⟩) (by assumption)))
      go_wp2
      go_roundw
      case rel => exact ⟨k + 1, hlt, by go_num, HBN⟩
      case measure => simp [intOf]; omega
    · obtain rfl : k = n := by omega
      go_wp2
      go_ret
      exact ⟨rfl, hB.out⟩
end Go.Proofs.Ytehfejgalemhaaa
