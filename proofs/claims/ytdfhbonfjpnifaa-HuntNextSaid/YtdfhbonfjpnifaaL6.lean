/- The walk of a hunt's Left. -/
import Derived.Test.YtdfhbonfjpnifaaL3
namespace Go.Proofs.Ytdfhbonfjpnifaa
open Go.RowKit

def suE (E : List Ent) (k : Nat) : Nat := ((E.take k).map fun e => e.1.2.length).sum
theorem suE_succ (E : List Ent) (k : Nat) (h : k < E.length) : suE E (k + 1) = suE E k + (enA E k).1.2.length := by
  unfold suE enA
  rw [List.take_add_one, List.getElem?_eq_getElem h, List.map_append, List.sum_append]
  simp only [Option.toList_some, List.map_cons, List.map_nil, List.sum_cons, List.sum_nil, Option.getD_some, Nat.add_zero]
theorem suE_all (E : List Ent) : suE E E.length = ((ndE E).map fun x => x.2.length).sum := by
  unfold suE ndE
  rw [List.take_length, List.map_map]
  rfl
theorem suE_le (E : List Ent) (k : Nat) : suE E k ≤ suE E E.length := by
  have e : E = E.take k ++ E.drop k := (List.take_append_drop k E).symm
  unfold suE
  rw [List.take_length]
  conv => rhs; rw [e]
  rw [List.map_append, List.sum_append]
  omega
set_option maxRecDepth 100000 in
set_option maxHeartbeats 4000000 in
theorem left_any (w0 : World) (b : Nat) (R : List (Nat × Nat)) (hR : R.length ≤ 1000000) (W : World) (h : HQ w0 b R W) : Calls Try.prog 15 #[.pointer (some ⟨b, 0, none⟩)] W fun e w' => e = .returned (.int .i64 (R.length : Nat)) ∧ Below W.heap.size W w' := by
  obtain ⟨E, h1, h2, h3, h4⟩ := h
  have htot : suE E E.length = R.length := by rw [suE_all]; exact h3.len
  have HS := Lib.hid (suE_succ E)
  have HLE : Hid (∀ k, suE E k ≤ R.length) := Lib.hid fun k => by rw [← htot]; exact suE_le E k
  obtain ⟨A, c, hb1, ho⟩ := h1.box
  have hcb : W.cell? ⟨b, 0, none⟩ = some (.slice A E.length c) := row_cell hb1 0 _ rfl
  have hbl : b < W.heap.size := (Array.getElem?_eq_some_iff.1 hb1).1
  have HENT : Hid (∀ k, k < E.length → ∃ G, A = some ⟨G, 0, none⟩ ∧ G < W.heap.size ∧ W.cell? ⟨G, k * 2, none⟩ = some (.int .i64 ((enA E k).1.1 : Nat)) ∧ ∃ g off c', W.cell? ⟨G, k * 2 + 1, none⟩ = some (.slice (some ⟨g, off, none⟩) (enA E k).1.2.length c')) := Lib.hid fun k hk => by
    obtain ⟨G, c', cur, g1, g2, g3, g4, g5, g6, g7⟩ := h1.row (by omega)
    obtain ⟨gi, oi, ci, ui, i1, i2, i3, i4, i5, i6⟩ := h1.ent hk
    rw [hb1] at g1
    simp only [Option.some.injEq, Obj.cells.injEq, Array.mk.injEq, List.cons.injEq, and_true, Value.slice.injEq, true_and] at g1
    obtain ⟨rfl, rfl⟩ := g1
    have k1 := g7.2 k hk
    rw [i1] at k1
    exact ⟨G, rfl, (Array.getElem?_eq_some_iff.1 g3).1, row_cell g3 _ _ k1.1, gi, oi, ci, row_cell g3 _ _ k1.2⟩
  have H0 : Hid (suE E 0 = 0) := Lib.hid rfl
  have hRi : (R.length : Int) ≤ 1000000 := by omega
  clear h1 h2 h3 ho hb1
  rw [← htot]
  rw [← htot] at HLE hR hRi
  have hn : (E.length : Int) ≤ 1000 := by omega
  generalize suE E = su at *
  generalize E.length = n at *
  go_enter Try.func15, Try.ntmps15
  go_wp2
  go_loopw [3, 13] (fun v q wr => ∃ k : Nat, v = .int .i64 (su k : Nat) ∧ q = .int .i64 k ∧ k ≤ n ∧ Hid (Below W.heap.size W wr)) (fun _ q _ => n - (intOf q).toNat)
  case atStart => exact ⟨0, by rw [H0.out]; rfl, by go_num, Nat.zero_le _, Lib.hid (Below.refl _ _)⟩
  case round =>
    obtain ⟨k, rfl, rfl, hk, HB⟩ := hrel
    by_cases hlt : k < n
    · have hki : (k : Int) < n := by omega
      obtain ⟨G, rfl, hG, c0, g, off, c', c1⟩ := HENT.out k hlt
      have d0 : wr.cell? ⟨G, k * 2, none⟩ = some (.int .i64 ((enA E k).1.1 : Nat)) := (HB.out.cell (p := ⟨G, k * 2, none⟩) hG).trans c0
      have d1 : wr.cell? ⟨G, k * 2 + 1, none⟩ = some (.slice (some ⟨g, off, none⟩) (enA E k).1.2.length c') := (HB.out.cell (p := ⟨G, k * 2 + 1, none⟩) hG).trans c1
      have hs := HS.out k hlt
      have hle := HLE.out (k + 1)
      rw [hs] at hle
      have HB2 := Lib.hid (fun o => belA HB.out o)
      clear c0 c1 hG HENT HS HLE HB
      generalize (enA E k).1.2.length = l at *
      generalize (enA E k).1.1 = x at *
      generalize su k = s at *
      generalize su n = sn at *
      go_wp2
      go_roundw
      case rel => exact ⟨k + 1, by rw [hs]; go_num, by go_num, hlt, Lib.hid (HB2.out _)⟩
      case measure => simp [intOf]; omega
    · obtain rfl : k = n := by omega
      go_wp2
      go_ret
      exact ⟨rfl, HB.out⟩

end Go.Proofs.Ytdfhbonfjpnifaa
