/- The walks of cloneAll and All. -/
import Derived.Test.YtehfejgalemhaaaNn
import Derived.Laws.MakeOwn
namespace Go.Proofs.Ytehfejgalemhaaa
open Go.RowKit

theorem OR.stored {w : World} {n g off c : Nat} {xs : List Value} (h : OR w (.slice (some ⟨g, off, none⟩) n c) n xs) (k : Nat) (v : Value) (hk : k < n * 2) : OR (w.setCell ⟨g, off + k, none⟩ v) (.slice (some ⟨g, off, none⟩) n c) n (xs.set k v) ∧ (∃ u, w.cell? ⟨g, off + k, none⟩ = some u) ∧ w.frozen? ⟨g, off + k, none⟩ = false := by
  have hl := h.1
  rcases h.2 with ⟨h0, _⟩ | ⟨g', off', cap, cur, e, hh, h1, h2, h3, hr⟩
  · simp at h0
  · simp only [Value.slice.injEq, Option.some.injEq, Addr.mk.injEq, and_true, true_and] at e
    obtain ⟨⟨rfl, rfl⟩, rfl⟩ := e
    have hc : w.cell? ⟨g, off + k, none⟩ = some xs[k] := hr k _ (List.getElem?_eq_getElem (by omega))
    refine ⟨⟨by rw [List.length_set]; exact hl, .inr ⟨g, off, c, _, rfl, heap_setCell_same w g (off + k) cur _ v hh, h1, h2, by simpa using h3, fun j u hu => ?_⟩⟩, ⟨_, hc⟩, by simp [World.frozen?, hh]⟩
    by_cases hj : k = j
    · subst hj
      rw [List.getElem?_set_self (by omega)] at hu
      injection hu with hu
      subst hu
      exact World.cell?_setCell_same _ _ _ hc
    · rw [World.cell?_setCell_other _ _ _ _ (by simp <;> omega)]
      rw [List.getElem?_set_ne hj] at hu
      exact hr j u hu
theorem set2_take {α : Type} (ys : List α) (k : Nat) (a b : α) (h : k + 1 < ys.length) : ((ys.set k a).set (k + 1) b).take (k + 1 + 1) = ys.take k ++ [a, b] := by
  rw [List.take_succ_eq_append_getElem (by simpa using h), List.take_succ_eq_append_getElem (by simp; omega)]
  simp [List.take_set_of_le]
/-- What cloneAll has made so far. -/
structure CA (w0 w : World) (n : Nat) (L : List (Int × Bool)) (k : Nat) (ys : List Value) : Prop where
  below : Below w0.heap.size w0 w
  lt : w0.heap.size < w.heap.size
  rows : OR w (.slice (some ⟨w0.heap.size, 0, none⟩) n n) n ys
  each : RS (fun b => w0.heap.size ≤ b) w (ys.take (k * 2)) (L.take k)
theorem CA.past {w0 w w' : World} {n : Nat} {L : List (Int × Bool)} {k : Nat} {ys : List Value} (h : CA w0 w n L k ys) (hb : Below w.heap.size w w') : CA w0 w' n L k ys :=
  ⟨bel0 h.below hb, Nat.lt_of_lt_of_le h.lt hb.size, h.rows.kept (KB.of_below (S := fun _ => False) hb) (fun _ _ e => e), h.each.map fun _ _ _ hr => hr.past hb⟩
theorem CA.next {w0 w w6 : World} {n : Nat} {L : List (Int × Bool)} {k : Nat} {ys : List Value} {v v2 : Value} {r : Int × Bool} (h : CA w0 w n L k ys) (hk : k < n) (hn : n = L.length) (hr : L[k]?.getD (0, false) = r) (hb : Below w.heap.size w w6) (hv : RV (fun b => w.heap.size ≤ b) w6 v v2 r) :
    (∃ u, w6.cell? ⟨w0.heap.size, k * 2, none⟩ = some u) ∧ (∃ u, w6.cell? ⟨w0.heap.size, k * 2 + 1, none⟩ = some u) ∧ (∀ k, w6.frozen? ⟨w0.heap.size, k, none⟩ = false) ∧
    CA w0 ((w6.setCell ⟨w0.heap.size, k * 2, none⟩ v).setCell ⟨w0.heap.size, k * 2 + 1, none⟩ v2) n L (k + 1) ((ys.set (k * 2) v).set (k * 2 + 1) v2) := by
  have h6 := h.past hb
  have hyl := h6.rows.1
  obtain ⟨s1, c1, f1⟩ := h6.rows.stored (k * 2) v (by omega)
  obtain ⟨s2, c2, f2⟩ := s1.stored (k * 2 + 1) v2 (by omega)
  obtain ⟨_, c3, _⟩ := h6.rows.stored (k * 2 + 1) v (by omega)
  simp only [Nat.zero_add] at s1 s2 c1 c2 c3
  obtain ⟨cur, hcur⟩ := (h6.rows.lt w0.heap.size rfl).2
  have kk : KB (fun i => i = w0.heap.size) w6 ((w6.setCell ⟨w0.heap.size, k * 2, none⟩ v).setCell ⟨w0.heap.size, k * 2 + 1, none⟩ v2) := (KB.set (S := fun i => i = w0.heap.size) _ v rfl).trans (KB.set (S := fun i => i = w0.heap.size) _ v2 rfl) fun _ _ e => e
  have hnc : ∀ P', NC (fun i => i = w0.heap.size) P' w6 := fun P' i cur' hi hS _ hc => by
    subst hS
    rw [hcur] at hc
    injection hc with hc
    injection hc with _ e _
    exact absurd e (by decide)
  refine ⟨c1, c3, fun k => by simp [World.frozen?, hcur], ⟨(h6.below.setCell (p := ⟨w0.heap.size, k * 2, none⟩) (Nat.le_refl _) _).setCell (p := ⟨w0.heap.size, k * 2 + 1, none⟩) (Nat.le_refl _) _, by rw [World.size_setCell, World.size_setCell]; exact h6.lt, s2, ?_⟩⟩
  rw [show (k + 1) * 2 = k * 2 + 1 + 1 from by omega, set2_take ys (k * 2) v v2 (by omega)]
  have hkl : k < L.length := by omega
  rw [List.take_succ_eq_append_getElem hkl]
  rw [List.getElem?_eq_getElem hkl, Option.getD_some] at hr
  rw [hr]
  exact RS.snoc ((hv.mono fun b _ hb => by have := h.below.size; omega).kept kk (hnc _)) (h6.each.map fun _ _ _ q => q.kept kk (hnc _))

set_option maxRecDepth 100000 in
set_option maxHeartbeats 4000000 in
theorem cloneAll_any {P : Nat → Prop} (A : Option Addr) (n c : Nat) (xs : List Value) (L : List (Int × Bool)) (hn : n = L.length) (hl : n ≤ 1000000) (w : World) (h : OR w (.slice A n c) n xs) (hr : RS P w xs L) :
    Calls Try.prog 29 #[.slice A n c] w fun e w' => ∃ xs', e = .returned (.slice (some ⟨w.heap.size, 0, none⟩) n n) ∧ Below w.heap.size w w' ∧ OR w' (.slice (some ⟨w.heap.size, 0, none⟩) n n) n xs' ∧ RS (fun b => w.heap.size ≤ b) w' xs' L := by
  obtain ⟨Z, hZ, hmk⟩ : ∃ Z : Array Value, Z.size = n * 2 ∧ ∀ W : World, (Instr.makeSlice 29 (.int .i64 n) (.int .i64 n)).run Try.prog W = .ok (.slice (some ⟨W.heap.size, 0, none⟩) n n) (W.alloc (.cells Z 43)) := by
    obtain ⟨i, hi, hz, hs, hb⟩ : ∃ i, Try.prog.info? 43 = some i ∧ i.zero = some (.agg #[.slice none 0 0, .bool false]) ∧ i.size = 2 ∧ i.bytes = 32 := by
      have := Try.infoRow
      cases hq : Try.prog.info? 43 with
      | none => rw [hq] at this; cases this
      | some i => rw [hq] at this; simp at this; exact ⟨i, rfl, this.1, this.2.1, this.2.2⟩
    refine ⟨madeCells (Value.agg #[.slice none 0 0, .bool false]).cells (n * 2), size_madeCells _ _, fun W => ?_⟩
    have := run_make (P := Try.prog) W 29 43 i _ (by kernel_rfl) hi hz .i64 .i64 n n (by omega) (by omega) (by rw [hb]; omega) (by omega)
    rw [hs, Int.toNat_natCast] at this
    exact this
  have H0 : Hid (CA w (w.alloc (.cells Z 43)) n L 0 Z.toList) := Lib.hid ⟨belA (Below.refl _ _) _, by simp, ⟨by simpa using hZ, .inr ⟨w.heap.size, 0, n, Z, rfl, heap_alloc_new w _, Nat.le_refl _, by unfold maxLen; omega, by omega, fun j u hu => by
      rw [Nat.zero_add]
      exact (cell_of_row _ _ _ _ _ _ (heap_alloc_new w _)).trans (by simpa using hu)⟩⟩, by rw [Nat.zero_mul]; exact trivial⟩
  have HR := Lib.hid h
  have HS := Lib.hid hr
  have HN := Lib.hid hn
  clear h hr hn hZ
  go_enter Try.func29, Try.ntmps29
  go_wp2
  go_loopw [11] (fun i wr => ∃ (k : Nat) (ys : List Value), k ≤ n ∧ i = .int .i64 k ∧ Hid (CA w wr n L k ys)) (fun i _ => n - (intOf i).toNat)
  case atStart => exact ⟨0, _, Nat.zero_le _, rfl, H0⟩
  case round =>
    obtain ⟨k, ys, hk, rfl, HC⟩ := hrel
    by_cases hlt : k < n
    · have hlti : (k : Int) < n := by omega
      have hk0 : (0 : Int) ≤ k := by omega
      obtain ⟨u, v2, hx0, hx1, hrv⟩ := HS.out.at k (by have := HN.out; omega)
      obtain ⟨n', hn'⟩ : ∃ n', n = n' + 1 := ⟨n - 1, by omega⟩
      obtain ⟨g, off, c', he, hc⟩ := OR.form (n := n') (by have := HR.out; rwa [hn'] at this)
      rw [← hn'] at he
      injection he with he1 _ he2
      subst he1
      have hb0 := HC.out.below
      have hgl : g < w.heap.size := (HR.out.lt g rfl).1
      have e0 := (hb0.cell (p := ⟨g, off + k * 2, none⟩) hgl).trans (HR.out.cell hx0).1
      have e1 := (hb0.cell (p := ⟨g, off + (k * 2 + 1), none⟩) hgl).trans (HR.out.cell hx1).1
      rw [← Nat.add_assoc] at e1
      have hgl' : g < wr.heap.size := Nat.lt_of_lt_of_le hgl hb0.size
      have hGl : w.heap.size < wr.heap.size := HC.out.lt
      generalize hrr : L[k]?.getD (0, false) = r at *
      have HCL : Hid (∀ o, Calls Try.prog 30 #[.agg #[u, v2]] (wr.alloc o) fun e w' => ∃ g c, e = .returned (.agg #[.slice (some ⟨g, 0, none⟩) 1 c, v2]) ∧ Below (wr.alloc o).heap.size (wr.alloc o) w' ∧ RV (fun b => (wr.alloc o).heap.size ≤ b) w' (.slice (some ⟨g, 0, none⟩) 1 c) v2 r) := Lib.hid fun o => clone_any u v2 r _ ((hrv.past hb0).past (belA (Below.refl _ _) _))
      obtain ⟨b0, c0, rfl, rfl, _⟩ := hrv.cells
      have HRR := Lib.hid hrr
      clear hx0 hx1 hrv hb0 hrr hn' he2 hc HR HS
      generalize r.2 = q at *
      go_wp2_with (go_at_call 30; go_must (with_reducible refine (HCL.out _).mono ?_; rintro e6 w6 ⟨g6, c6, rfl, hb6, hr6⟩; obtain ⟨⟨u1, k1⟩, ⟨u2, k2⟩, kf, hz⟩ := HC.out.next hlt HN.out HRR.out (bel1 (Below.refl _ _) hb6) (hr6.mono fun b _ hb => by simp at hb; omega); have HZ := Lib.hid hz; clear hb6 hr6 hz))
      go_roundw
      case rel => exact ⟨k + 1, _, hlt, by go_num, HZ⟩
      case measure => simp [intOf]; omega
    · obtain rfl : k = n := by omega
      have hfin := HC.out
      have HB := Lib.hid hfin.below
      have HO := Lib.hid hfin.rows
      have HE : Hid (RS (fun b => w.heap.size ≤ b) wr ys L) := Lib.hid (by
        have h1 := hfin.each
        rw [List.take_of_length_le (Nat.le_of_eq hfin.rows.1), List.take_of_length_le (by rw [HN.out]; exact Nat.le_refl _)] at h1
        exact h1)
      clear hfin HC
      go_wp2
      go_ret
      exact ⟨_, rfl, HB.out, HO.out, HE.out⟩
end Go.Proofs.Ytehfejgalemhaaa
