/- The walks of At, Set where there is no such row; of Clear; of Set. -/
import Derived.Test.YtehfejgalemhaaaNq
namespace Go.Proofs.Ytehfejgalemhaaa
open Go.RowKit

set_option maxRecDepth 100000 in
set_option maxHeartbeats 2000000 in
theorem has_out {P : Nat → Prop} (w : World) (D : Nat) (v : Value) (room : Nat) (gone : Int) (L : List (Int × Bool)) (xs : List Value) (h : RM P w D v room gone L xs) (i : Int) (hi : i < 0 ∨ (L.length : Int) ≤ i) :
    Calls Try.prog 31 #[.pointer (some ⟨D, 0, none⟩), .int .i64 i] w fun e w' => e = .returned (.bool false) ∧ w' = w := by
  have HL : Hid (Calls Try.prog 11 #[.pointer (some ⟨D, 0, none⟩)] w fun e w' => e = .returned (.int .i64 L.length) ∧ w' = w) := Lib.hid (len_any w D v room gone L xs h)
  clear h
  by_cases h0 : i < 0
  · go_enter Try.func31, Try.ntmps31
    go_wp2_with (go_at_call 11; go_must (with_reducible refine HL.out.mono ?_; rintro e5 w5 ⟨rfl, rfl⟩))
    go_ret
    exact ⟨rfl, rfl⟩
  · have h1 : ¬ i < (L.length : Int) := by omega
    have h2 : (0 : Int) ≤ i := by omega
    go_enter Try.func31, Try.ntmps31
    go_wp2_with (go_at_call 11; go_must (with_reducible refine HL.out.mono ?_; rintro e5 w5 ⟨rfl, rfl⟩))
    go_ret
    exact ⟨by simp <;> omega, rfl⟩
set_option maxRecDepth 100000 in
set_option maxHeartbeats 2000000 in
theorem at_out {P : Nat → Prop} (w : World) (D : Nat) (v : Value) (room : Nat) (gone : Int) (L : List (Int × Bool)) (xs : List Value) (h : RM P w D v room gone L xs) (i : Int) (hi : i < 0 ∨ (L.length : Int) ≤ i) :
    Calls Try.prog 19 #[.pointer (some ⟨D, 0, none⟩), .int .i64 i] w fun e w' => e = .returned (.tuple #[.agg #[.slice none 0 0, .bool false], .bool false]) ∧ Below w.heap.size w w' := by
  have HL : Hid (∀ W, Below w.heap.size w W → Calls Try.prog 31 #[.pointer (some ⟨D, 0, none⟩), .int .i64 i] W fun e w' => e = .returned (.bool false) ∧ w' = W) := Lib.hid fun W hW => has_out W D v room gone L xs (h.past hW) i hi
  clear h hi
  go_enter Try.func19, Try.ntmps19
  go_wp2_with (go_at_call 31; go_must (with_reducible refine (HL.out _ (belA (Below.refl _ _) _)).mono ?_; rintro e5 w5 ⟨rfl, rfl⟩))
  refine bodyPost_ret (v := .tuple #[.agg #[.slice none 0 0, .bool false], .bool false]) (by simp [results, Try.results19, go_sem]) rfl ⟨rfl, ?_⟩
  exact (Below.refl _ _).alloc (Nat.le_refl _) _
set_option maxRecDepth 100000 in
set_option maxHeartbeats 2000000 in
theorem set_out {P : Nat → Prop} (w : World) (D : Nat) (v v1 v2 : Value) (room : Nat) (gone : Int) (L : List (Int × Bool)) (xs : List Value) (h : RM P w D v room gone L xs) (i : Int) (hi : i < 0 ∨ (L.length : Int) ≤ i) :
    Calls Try.prog 24 #[.pointer (some ⟨D, 0, none⟩), .int .i64 i, .agg #[v1, v2]] w fun e w' => e = .returned (.bool false) ∧ Below w.heap.size w w' := by
  have HL : Hid (∀ W, Below w.heap.size w W → Calls Try.prog 31 #[.pointer (some ⟨D, 0, none⟩), .int .i64 i] W fun e w' => e = .returned (.bool false) ∧ w' = W) := Lib.hid fun W hW => has_out W D v room gone L xs (h.past hW) i hi
  clear h hi
  go_enter Try.func24, Try.ntmps24
  go_wp2_with (go_at_call 31; go_must (with_reducible refine (HL.out _ (belA (Below.refl _ _) _)).mono ?_; rintro e5 w5 ⟨rfl, rfl⟩))
  go_ret
  exact ⟨rfl, (Below.refl _ _).alloc (Nat.le_refl _) _⟩

theorem RM.cleared {P : Nat → Prop} {w : World} {D : Nat} {v : Value} {room : Nat} {gone : Int} {L : List (Int × Bool)} {xs : List Value} (h : RM P w D v room gone L xs) (gone' : Int) :
    RM P ((w.setCell ⟨D, 0, none⟩ (.slice none 0 0)).setCell ⟨D, 2, none⟩ (.int .u64 gone')) D (.slice none 0 0) room gone' [] [] ∧ KB (fun i => i = D) w ((w.setCell ⟨D, 0, none⟩ (.slice none 0 0)).setCell ⟨D, 2, none⟩ (.int .u64 gone')) :=
  ⟨⟨(heap_set_ring (heap_set_ring h.d (.slice none 0 0)).1 (.int .u64 gone')).2, OR.nil _, trivial⟩, (KB.set (S := fun i => i = D) 0 _ rfl).trans (KB.set (S := fun i => i = D) 2 _ rfl) fun _ _ e => e⟩
/-- How many have gone behind Clear. -/
def clearG (gone : Int) (L : List (Int × Bool)) : Int := if L = [] then gone else IntKind.u64.wrap (gone + L.length)
set_option maxRecDepth 100000 in
set_option maxHeartbeats 2000000 in
theorem clear_any {P : Nat → Prop} (w : World) (D : Nat) (v : Value) (room : Nat) (gone : Int) (L : List (Int × Bool)) (xs : List Value) (h : RM P w D v room gone L xs) (hl : L.length ≤ 1000000) :
    Calls Try.prog 23 #[.pointer (some ⟨D, 0, none⟩)] w fun e w' => e = .returned (.int .i64 L.length) ∧ ∃ v', RM P w' D v' room (clearG gone L) [] [] ∧ (v' = v ∨ v' = .slice none 0 0) ∧ KB (fun i => i = D) w w' := by
  have HL : Hid (Calls Try.prog 11 #[.pointer (some ⟨D, 0, none⟩)] w fun e w' => e = .returned (.int .i64 L.length) ∧ w' = w) := Lib.hid (len_any w D v room gone L xs h)
  by_cases hL : L = []
  · subst hL
    have hx : xs = [] := List.eq_nil_of_length_eq_zero (by have := h.rows.1; simpa using this)
    subst hx
    have HM : Hid (RM P w D v room (clearG gone []) [] []) := Lib.hid h
    clear h
    simp only [List.length_nil, Int.natCast_zero] at HL ⊢
    go_enter Try.func23, Try.ntmps23
    go_wp2_with (go_at_call 11; go_must (with_reducible refine HL.out.mono ?_; rintro e5 w5 ⟨rfl, rfl⟩))
    go_ret
    exact ⟨rfl, v, HM.out, .inl rfl, KB.refl _ _⟩
  · have hpos : (0 : Int) < L.length := by have := List.length_pos_iff.2 hL; omega
    have hw1 : IntKind.u64.wrap (L.length : Int) = L.length := IntWalk.u64_in _ (by omega)
    obtain ⟨⟨d0, d1, d2⟩, df⟩ := h.cells
    have HM := Lib.hid (h.cleared (IntKind.u64.wrap (gone + L.length)))
    have HIF : Hid (clearG gone L = IntKind.u64.wrap (gone + L.length)) := Lib.hid (if_neg hL)
    clear h hL
    generalize clearG gone L = gn at *
    generalize L.length = n at *
    go_enter Try.func23, Try.ntmps23
    go_wp2_with (go_at_call 11; go_must (with_reducible refine HL.out.mono ?_; rintro e5 w5 ⟨rfl, rfl⟩))
    go_ret
    exact ⟨rfl, .slice none 0 0, by rw [HIF.out]; exact HM.out.1, .inr rfl, HM.out.2⟩

theorem RM.setAt {P : Nat → Prop} {w w5 : World} {D g off c n room : Nat} {gone : Int} {L : List (Int × Bool)} {xs : List Value} {v v2 : Value} {r : Int × Bool} (h : RM P w D (.slice (some ⟨g, off, none⟩) n c) room gone L xs) (hn : n = L.length) (i : Nat) (hi : i < n) (hb : Below w.heap.size w w5) (hr : RV P w5 v v2 r) :
    (∃ u, w5.cell? ⟨g, off + i * 2, none⟩ = some u) ∧ (∃ u, w5.cell? ⟨g, off + i * 2 + 1, none⟩ = some u) ∧ (∀ k, w5.frozen? ⟨g, k, none⟩ = false) ∧ ∃ xs', RM P ((w5.setCell ⟨g, off + i * 2, none⟩ v).setCell ⟨g, off + i * 2 + 1, none⟩ v2) D (.slice (some ⟨g, off, none⟩) n c) room gone (L.set i r) xs' ∧ KB (fun k => k = g) w ((w5.setCell ⟨g, off + i * 2, none⟩ v).setCell ⟨g, off + i * 2 + 1, none⟩ v2) := by
  subst hn
  have h5 := h.past hb
  obtain ⟨s1, c1, f1⟩ := h5.rows.stored (i * 2) v (by omega)
  obtain ⟨s2, c2, f2⟩ := s1.stored (i * 2 + 1) v2 (by omega)
  obtain ⟨_, c3, _⟩ := h5.rows.stored (i * 2 + 1) v (by omega)
  rw [← Nat.add_assoc] at s2 c3
  obtain ⟨cur, hcur⟩ := (h5.rows.lt g rfl).2
  have kk : KB (fun k => k = g) w5 ((w5.setCell ⟨g, off + i * 2, none⟩ v).setCell ⟨g, off + i * 2 + 1, none⟩ v2) := (KB.set (S := fun k => k = g) _ v rfl).trans (KB.set (S := fun k => k = g) _ v2 rfl) fun _ _ e => e
  have hnc : NC (fun k => k = g) P w5 := fun k cur' _ hS _ hc => by
    subst hS
    rw [hcur] at hc
    injection hc with hc
    injection hc with _ e _
    exact absurd e (by decide)
  refine ⟨c1, c3, fun k => by simp [World.frozen?, hcur], _, ⟨(kk.block D h5.lt (fun e => h5.ne g rfl e.symm)).trans h5.d, by rw [List.length_set]; exact s2, RS.set (hr.kept kk hnc) i (h5.each.map fun _ _ _ q => q.kept kk hnc)⟩, (KB.of_below hb).trans kk fun _ _ e => e⟩
end Go.Proofs.Ytehfejgalemhaaa
