/- flow.Offset, flow.Place; the document's Count, Offset, Place. -/
import Derived.Test.YtfjgfmeanehpmaaHx
import Derived.Test.YtfjgfmeanehpmaaHm
import Derived.Deep.RegionHeld3
namespace Go.Proofs.Ytfjgfmeanehpmaa
open Go.RowKit

theorem box_step {w0 W W' : World} {p : Nat} {v0 v1 : Value} (h : (W.cell? ⟨p, 0, none⟩ = some v0 ∧ W.cell? ⟨p, 1, none⟩ = some v1) ∧ p < W.heap.size ∧ Below w0.heap.size w0 W) (hb : Below W.heap.size W W') : (W'.cell? ⟨p, 0, none⟩ = some v0 ∧ W'.cell? ⟨p, 1, none⟩ = some v1) ∧ p < W'.heap.size ∧ Below w0.heap.size w0 W' :=
  ⟨⟨(hb.cell (p := ⟨p, 0, none⟩) h.2.1).trans h.1.1, (hb.cell (p := ⟨p, 1, none⟩) h.2.1).trans h.1.2⟩, Nat.lt_of_lt_of_le h.2.1 hb.size, bel0 h.2.2 hb⟩
theorem box_below {w0 W : World} {p : Nat} {v0 v1 : Value} (h : (W.cell? ⟨p, 0, none⟩ = some v0 ∧ W.cell? ⟨p, 1, none⟩ = some v1) ∧ p < W.heap.size ∧ Below w0.heap.size w0 W) : Below w0.heap.size w0 W := h.2.2
set_option maxRecDepth 100000 in
set_option maxHeartbeats 4000000 in
theorem flowOffset_any (A : Option Addr) (L : List Rw) (n c : Nat) (row col : Int) (hn : n = L.length) (hl : n ≤ 100000000) (hr : ∀ i, i < n → (Ar L i).c.length ≤ 1000000000) (hf : (flat L).length ≤ 1000000000) (w : World) (h : RR w A L) :
    Calls Try.prog 21 #[.slice A n c, .agg #[.int .i64 row, .int .i64 col]] w fun e w' => e = .returned (.int .i64 (offZ L row col : Nat)) ∧ Below w.heap.size w w' := by
  have HC : Hid (∀ W, Below w.heap.size w W → Calls Try.prog 37 #[.slice A n c] W fun e w' => ∃ g, e = .returned (.slice (some ⟨g, 0, none⟩) (n + 1) (n + 1)) ∧ RN w' g L ∧ Below W.heap.size W w') := Lib.hid fun W hW => (countOf_any A L n c hn hl hr hf W (h.past hW)).mono fun e w' ⟨g, he, ho, hb⟩ => ⟨g, he, RN.of_own ho hn, hb⟩
  have HO : Hid (∀ W g, RN W g L → Calls Try.prog 38 #[.slice (some ⟨g, 0, none⟩) (n + 1) (n + 1), .agg #[.int .i64 row, .int .i64 col]] W fun e w' => e = .returned (.int .i64 (offZ L row col : Nat)) ∧ Below W.heap.size W w') := Lib.hid fun W g hg => offset_any g n (n + 1) L row col hn hl hf W hg
  have HB0 := Lib.hid (belA (Below.refl w.heap.size w) (.cells #[.int .i64 row, .int .i64 col] 39))
  have hx := heap_alloc_new w (.cells #[.int .i64 row, .int .i64 col] 39)
  clear h hn hr hf
  generalize offZ L row col = z at *
  go_enter Try.func21, Try.ntmps21
  go_wp2_with fail
  generalize w.alloc (.cells #[.int .i64 row, .int .i64 col] 39) = W0 at *
  have hS : (W0.cell? ⟨w.heap.size, 0, none⟩ = some (.int .i64 row) ∧ W0.cell? ⟨w.heap.size, 1, none⟩ = some (.int .i64 col)) ∧ w.heap.size < W0.heap.size ∧ Below w.heap.size w W0 := ⟨⟨cell_of_row _ _ 0 _ _ _ hx, cell_of_row _ _ 1 _ _ _ hx⟩, (Array.getElem?_eq_some_iff.1 hx).1, HB0.out⟩
  have hSd := box_step hS (Below.refl W0.heap.size W0).drew
  clear hS hx HB0
  go_region_held3 (fun W => (W.cell? ⟨w.heap.size, 0, none⟩ = some (.int .i64 row) ∧ W.cell? ⟨w.heap.size, 1, none⟩ = some (.int .i64 col)) ∧ w.heap.size < W.heap.size ∧ Below w.heap.size w W)
    (first | exact hSd | exact box_step hSd hbx | exact box_step (by assumption) hbx | assumption)
    (first
      | (go_at_call 37; (with_reducible refine (HC.out _ (box_below (by assumption))).mono ?_); rintro e8 w8 ⟨g8, rfl, hr8, hbx⟩)
      | (go_at_call 38; (with_reducible refine (HO.out _ _ hr8).mono ?_); rintro e8 w9 ⟨rfl, hbx⟩))
  all_goals
    go_wp2
    go_ret
    exact ⟨rfl, box_below (by assumption)⟩
set_option maxRecDepth 100000 in
set_option maxHeartbeats 4000000 in
theorem flowPlace_any (A : Option Addr) (L : List Rw) (n c : Nat) (off : Int) (hn : n = L.length) (hl : n ≤ 100000000) (hr : ∀ i, i < n → (Ar L i).c.length ≤ 1000000000) (hf : (flat L).length ≤ 1000000000) (w : World) (h : RR w A L) :
    Calls Try.prog 23 #[.slice A n c, .int .i64 off] w fun e w' => e = .returned (.agg #[.int .i64 ((placeZ L off).1 : Nat), .int .i64 ((placeZ L off).2 : Nat)]) ∧ Below w.heap.size w w' := by
  have HC : Hid (∀ W, Below w.heap.size w W → Calls Try.prog 37 #[.slice A n c] W fun e w' => ∃ g, e = .returned (.slice (some ⟨g, 0, none⟩) (n + 1) (n + 1)) ∧ RN w' g L ∧ Below W.heap.size W w') := Lib.hid fun W hW => (countOf_any A L n c hn hl hr hf W (h.past hW)).mono fun e w' ⟨g, he, ho, hb⟩ => ⟨g, he, RN.of_own ho hn, hb⟩
  have HO : Hid (∀ W g, RN W g L → Calls Try.prog 40 #[.slice (some ⟨g, 0, none⟩) (n + 1) (n + 1), .int .i64 off] W fun e w' => e = .returned (.agg #[.int .i64 ((placeZ L off).1 : Nat), .int .i64 ((placeZ L off).2 : Nat)]) ∧ Below W.heap.size W w') := Lib.hid fun W g hg => placeF_any g n (n + 1) L off hn hl hf W hg
  have HB0 := Lib.hid (belA (Below.refl w.heap.size w) (.cells #[.int .i64 0, .int .i64 0] 39))
  have HX := Lib.hid (heap_alloc_new w (.cells #[.int .i64 0, .int .i64 0] 39))
  clear h hn hr hf
  generalize placeZ L off = z at *
  obtain ⟨z1, z2⟩ := z
  go_enter Try.func23, Try.ntmps23
  go_wp2_with (first
    | (go_at_call 37; (with_reducible refine (HC.out _ HB0.out).mono ?_); rintro e8 w8 ⟨g8, rfl, hr8, hb8⟩; have HR8 := Lib.hid hr8; have HB8 := Lib.hid hb8; clear hr8 hb8)
    | (go_at_call 40; (with_reducible refine (HO.out _ _ HR8.out).mono ?_); rintro e8 w9 ⟨rfl, hb9⟩; have hx9 := (hb9.block _ (Nat.lt_of_lt_of_le (Array.getElem?_eq_some_iff.1 HX.out).1 (HB8.out).size)).trans (((HB8.out).block _ (Array.getElem?_eq_some_iff.1 HX.out).1).trans HX.out); have q7 := cell_of_row _ _ 0 _ _ _ hx9; have q8 := cell_of_row _ _ 1 _ _ _ hx9; have q9 := free_of_row hx9 0; have q10 := free_of_row hx9 1; have HB9 := Lib.hid (bel0 (bel0 HB0.out HB8.out) hb9); clear hb9 hx9))
  refine bodyPost_ret (v := .agg #[.int .i64 (z1 : Int), .int .i64 (z2 : Int)]) (by simp [results, Try.results23, go_sem, q7, q8]) rfl ⟨rfl, ?_⟩
  exact (HB9.out.setCell (p := ⟨w.heap.size, 0, none⟩) (Nat.le_refl _) (.int .i64 (z1 : Int))).setCell (p := ⟨w.heap.size, 1, none⟩) (Nat.le_refl _) (.int .i64 (z2 : Int))
theorem flow_count (L : List Rw) (i : Nat) : (flat (L.take i)).length = pre L i := by
  rcases Nat.le_total i L.length with h | h
  · rw [← pre_flat]
    unfold pre
    rw [List.take_take, List.length_take, Nat.min_eq_left h, Nat.min_self]
  · rw [List.take_of_length_le h, pre_over L i h, pre_flat]
set_option maxRecDepth 100000 in
set_option maxHeartbeats 8000000 in
theorem refCount_any (A : Option Addr) (L : List Rw) (n c : Nat) (hn : n = L.length) (hl : n ≤ 1000000000) (hr : ∀ i, i < n → (Ar L i).c.length ≤ 1000000000) (hf : (flat L).length ≤ 1000000000) (w : World) (h : RR w A L) :
    Calls Try.prog 39 #[.slice A n c] w fun e w' => e = .returned (.int .i64 ((flat L).length : Nat)) ∧ Below w.heap.size w w' := by
  have HR := Lib.hid h
  have HN := Lib.hid hn
  have HF := Lib.hid hf
  have HL := Lib.hid hr
  clear h hn hf hr
  go_enter Try.func39, Try.ntmps39
  go_wp2
  go_loopw [3, 4] (fun v q wr => ∃ (i m : Nat), v = .int .i64 m ∧ q = .int .i64 i ∧ i ≤ n ∧ m ≤ 1000000000 ∧ Hid (m = (flowAt L i 0).length) ∧ Hid (Below w.heap.size w wr)) (fun _ q _ => n - (intOf q).toNat)
  case atStart => exact ⟨0, 0, rfl, rfl, Nat.zero_le _, Nat.zero_le _, Lib.hid rfl, Lib.hid (Below.refl _ _)⟩
  case round =>
    obtain ⟨i, m, rfl, rfl, hi, hm, HO, HB⟩ := hrel
    by_cases hlt : i < n
    · have hlti : (i : Int) < n := by omega
      obtain ⟨b, off, Ai, ci, rfl, _, hG⟩ := HR.out.at i (by have := HN.out; omega)
      have hkl := HL.out i hlt
      obtain ⟨nk, hnk⟩ : ∃ nk, (Ar L i).c.length = nk := ⟨_, rfl⟩
      have HNK := Lib.hid hnk
      have HG := Lib.hid hG
      rw [hnk] at hkl
      clear hG hnk
      go_wp2_with fail
      have HB0 := HB
      have HO0 := HO
      clear HB HO
      generalize wr = wa at *
      go_loopw [3, 5] (fun v q wr => ∃ (k m : Nat), v = .int .i64 m ∧ q = .int .i64 k ∧ k ≤ nk ∧ m ≤ 1000000000 ∧ Hid (m = (flowAt L i k).length) ∧ Hid (Below w.heap.size w wr)) (fun _ q _ => nk - (intOf q).toNat)
      case atStart => exact ⟨0, m, rfl, rfl, Nat.zero_le _, hm, HO0, HB0⟩
      case round =>
        obtain ⟨k, m1, rfl, rfl, hk, hm1, HO, HB⟩ := hrel
        obtain ⟨_, r0, _, rC⟩ := HG.out _ HB.out
        rw [HNK.out] at r0
        by_cases hklt : k < nk
        · have hkli : (k : Int) < nk := by omega
          obtain ⟨b2, off2, rfl, hG⟩ := rC.at (fun e => by have := HNK.out; rw [e] at this; simp at this; omega)
          obtain ⟨_, GA⟩ := hG _ (Below.refl _ _)
          obtain ⟨a0, a1, a2, a3, a4, a5, a6, a7⟩ := GA k (by have := HNK.out; omega)
          have HY := fun hp => Lib.hid (flowAt_yes L i k (by have := HNK.out; omega) hp)
          have HNo := fun hp => Lib.hid (flowAt_no L i k (by have := HNK.out; omega) hp)
          have HLE := Lib.hid (flowAt_le L i (k + 1) (by have := HN.out; omega))
          clear hG GA rC HG
          cases hp : notPad (Ac (Ar L i).c k) with
          | true =>
            have HZ : Hid (m1 + 1 = (flowAt L i (k + 1)).length) := Lib.hid (by rw [(HY hp).out, List.length_append, HO.out]; rfl)
            have hm2 : m1 + 1 ≤ 1000000000 := by have h1 := HLE.out; have h2 := HF.out; have h3 := HZ.out; omega
            have hp3 : ((Ac (Ar L i).c k).h == 3) = false := by unfold notPad at hp; simpa using hp
            have hp4 : ((Ac (Ar L i).c k).h != 3) = true := by rw [bne, hp3]; rfl
            clear HY HNo HLE hp HO
            generalize Ac (Ar L i).c k = x at *
            go_wp2
            go_roundw
            case rel => exact ⟨k + 1, m1 + 1, by go_num, by go_num, hklt, hm2, HZ, HB⟩
            case measure => simp [intOf]; omega
          | false =>
            have HZ : Hid (m1 = (flowAt L i (k + 1)).length) := Lib.hid (by rw [(HNo hp).out]; exact HO.out)
            have hp3 : ((Ac (Ar L i).c k).h == 3) = true := by unfold notPad at hp; simpa using hp
            have hp4 : ((Ac (Ar L i).c k).h != 3) = false := by rw [bne, hp3]; rfl
            clear HY HNo HLE hp HO
            generalize Ac (Ar L i).c k = x at *
            go_wp2
            go_roundw
            case rel => exact ⟨k + 1, m1, rfl, by go_num, hklt, hm1, HZ, HB⟩
            case measure => simp [intOf]; omega
        · obtain rfl : k = nk := by omega
          have HE : Hid (m1 = (flowAt L (i + 1) 0).length) := Lib.hid (by
            rw [← flowAt_next L i (by have := HN.out; omega), HNK.out]
            exact HO.out)
          clear HO HG rC
          go_wp2
          go_roundw
          case rel => exact ⟨i + 1, m1, rfl, by go_num, hlt, hm1, HE, HB⟩
          case measure => simp [intOf]; omega
    · obtain rfl : i = n := by omega
      have HE : Hid ((m : Int) = ((flat L).length : Nat)) := Lib.hid (by
        have := HO.out
        rw [flowAt_zero, HN.out, List.take_length] at this
        omega)
      clear HO
      go_wp2
      go_ret
      exact ⟨(by rw [← HE.out]; try rfl), HB.out⟩
end Go.Proofs.Ytfjgfmeanehpmaa
