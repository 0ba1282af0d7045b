/- The walks of has and At. -/
import Derived.Test.YtehfejgalemhaaaNj
namespace Go.Proofs.Ytehfejgalemhaaa
open Go.RowKit

set_option maxRecDepth 100000 in
set_option maxHeartbeats 2000000 in
theorem has_in {P : Nat → Prop} (w : World) (D : Nat) (v : Value) (room : Nat) (gone : Int) (L : List (Int × Bool)) (xs : List Value) (h : RM P w D v room gone L xs) (i : Nat) (hi : i < L.length) :
    Calls Try.prog 31 #[.pointer (some ⟨D, 0, none⟩), .int .i64 i] w fun e w' => e = .returned (.bool true) ∧ w' = w := by
  have HL : Hid (Calls Try.prog 11 #[.pointer (some ⟨D, 0, none⟩)] w fun e w' => e = .returned (.int .i64 L.length) ∧ w' = w) := Lib.hid (len_any w D v room gone L xs h)
  have h0 : (0 : Int) ≤ i := by omega
  have h1 : (i : Int) < L.length := by omega
  clear h
  go_enter Try.func31, Try.ntmps31
  go_wp2_with (go_at_call 11; go_must (with_reducible refine HL.out.mono ?_; rintro e5 w5 ⟨rfl, rfl⟩))
  go_ret
  exact ⟨by simp <;> omega, rfl⟩

theorem box1 {w w' : World} {a b : Value} {t : TypeId} (h : Below (w.alloc (.cells #[a, b] t)).heap.size (w.alloc (.cells #[a, b] t)) w') :
    (w'.cell? ⟨w.heap.size, 0, none⟩ = some a ∧ w'.cell? ⟨w.heap.size, 1, none⟩ = some b) ∧ ∀ k, w'.frozen? ⟨w.heap.size, k, none⟩ = false := by
  have e0 : w'.heap[w.heap.size]? = some (.cells #[a, b] t (0, 0)) := (h.block _ (by simp)).trans (heap_alloc_new w _)
  exact ⟨⟨cell_of_row _ _ 0 _ _ _ e0, cell_of_row _ _ 1 _ _ _ e0⟩, fun k => by simp [World.frozen?, e0]⟩
theorem at_end {w w' : World} {o : Obj} {v v2 : Value} {r : Int × Bool} (hb : Below (w.alloc o).heap.size (w.alloc o) w') (hr : RV (fun b => (w.alloc o).heap.size ≤ b) w' v v2 r) (x y : Value) :
    Below w.heap.size w ((w'.setCell ⟨w.heap.size, 0, none⟩ x).setCell ⟨w.heap.size, 1, none⟩ y) ∧ RV (fun b => w.heap.size ≤ b) ((w'.setCell ⟨w.heap.size, 0, none⟩ x).setCell ⟨w.heap.size, 1, none⟩ y) v v2 r := by
  refine ⟨((bel1 (Below.refl _ _) hb).setCell (p := ⟨w.heap.size, 0, none⟩) (Nat.le_refl _) _).setCell (p := ⟨w.heap.size, 1, none⟩) (Nat.le_refl _) _, ?_⟩
  have hs : (w.alloc o).heap.size = w.heap.size + 1 := by simp
  rw [hs] at hr
  have hr' := hr.kept ((KB.set (S := fun i => i = w.heap.size) 0 x rfl).trans (KB.set (S := fun i => i = w.heap.size) 1 y rfl) (fun _ _ e => e)) (fun i cur _ hS hP => by subst hS; omega)
  exact hr'.mono (fun b _ hb => Nat.le_trans (by omega) hb)

set_option maxRecDepth 100000 in
set_option maxHeartbeats 2000000 in
theorem at_any {P : Nat → Prop} (w : World) (D : Nat) (v : Value) (room : Nat) (gone : Int) (L : List (Int × Bool)) (xs : List Value) (h : RM P w D v room gone L xs) (i : Nat) (hi : i < L.length) (hl : L.length ≤ 1000000) :
    Calls Try.prog 19 #[.pointer (some ⟨D, 0, none⟩), .int .i64 i] w fun e w' => ∃ g c, e = .returned (.tuple #[.agg #[.slice (some ⟨g, 0, none⟩) 1 c, .bool (L[i]?.getD (0, false)).2], .bool true]) ∧ Below w.heap.size w w' ∧ RV (fun b => w.heap.size ≤ b) w' (.slice (some ⟨g, 0, none⟩) 1 c) (.bool (L[i]?.getD (0, false)).2) (L[i]?.getD (0, false)) := by
  have HL : Hid (∀ W, Below w.heap.size w W → Calls Try.prog 31 #[.pointer (some ⟨D, 0, none⟩), .int .i64 i] W fun e w' => e = .returned (.bool true) ∧ w' = W) := Lib.hid fun W hW => has_in W D v room gone L xs (h.past hW) i hi
  obtain ⟨u, v2, hx0, hx1, hr⟩ := h.each.at i hi
  generalize L[i]?.getD (0, false) = r at *
  have HC : Hid (∀ W, Below w.heap.size w W → Calls Try.prog 30 #[.agg #[u, v2]] W fun e w' => ∃ g c, e = .returned (.agg #[.slice (some ⟨g, 0, none⟩) 1 c, v2]) ∧ Below W.heap.size W w' ∧ RV (fun b => W.heap.size ≤ b) w' (.slice (some ⟨g, 0, none⟩) 1 c) v2 r) := Lib.hid fun W hW => clone_any u v2 r W (hr.past hW)
  obtain ⟨b0, c0, rfl, rfl, _⟩ := hr.cells
  obtain ⟨n', hn'⟩ : ∃ n', L.length = n' + 1 := ⟨L.length - 1, by omega⟩
  obtain ⟨g, off, c, rfl, hc⟩ := OR.form (n := n') (by have := h.rows; rwa [hn'] at this)
  obtain ⟨⟨d0, d1, d2⟩, df⟩ := h.cells
  have hrows : OR w (.slice (some ⟨g, off, none⟩) (n' + 1) c) (n' + 1) xs := by have := h.rows; rwa [hn'] at this
  have e0 := (hrows.cell hx0).1
  have e1 := (hrows.cell hx1).1
  rw [← Nat.add_assoc] at e1
  have hlt := h.lt
  have hlg : g < w.heap.size := (hrows.lt g rfl).1
  have hi1 : (i : Int) < (n' : Int) + 1 := by omega
  have hi2 : (0 : Int) ≤ i := by omega
  clear h hrows hr hx0 hx1 hn'
  generalize r.2 = q at *
  go_enter Try.func19, Try.ntmps19
  go_wp2_with (first
    | (go_at_call 31; go_must (with_reducible refine (HL.out _ (belA (Below.refl _ _) _)).mono ?_; rintro e5 w5 ⟨rfl, rfl⟩))
    | (go_at_call 30; go_must (with_reducible refine (HC.out _ (belA (Below.refl _ _) _)).mono ?_; rintro e6 w6 ⟨g6, c6, rfl, hb6, hr6⟩; obtain ⟨⟨k0, k1⟩, kf⟩ := box1 hb6; have HZ := Lib.hid (at_end hb6 hr6); clear hb6 hr6)))
  refine bodyPost_ret (v := .tuple #[.agg #[.slice (some ⟨g6, 0, none⟩) 1 c6, .bool q], .bool true]) (by simp [results, Try.results19, go_sem, k0, k1]) rfl ⟨_, _, rfl, ?_⟩
  exact HZ.out _ _
theorem at_q (w0 w : World) (D room : Nat) (gone : Int) (L : List (Int × Bool)) (M : Nat) (h : RQ w0 w D room gone L M) (i : Nat) (hi : i < L.length) (hl : L.length ≤ 1000000) :
    Calls Try.prog 19 #[.pointer (some ⟨D, 0, none⟩), .int .i64 i] w fun e w' => ∃ g c, e = .returned (.tuple #[.agg #[.slice (some ⟨g, 0, none⟩) 1 c, .bool (L[i]?.getD (0, false)).2], .bool true]) ∧ Below w.heap.size w w' ∧ RV (fun b => w.heap.size ≤ b) w' (.slice (some ⟨g, 0, none⟩) 1 c) (.bool (L[i]?.getD (0, false)).2) (L[i]?.getD (0, false)) := by
  obtain ⟨A, c, xs, h1, _⟩ := h
  exact at_any w D _ room gone L xs h1 i hi hl
end Go.Proofs.Ytehfejgalemhaaa
