/- The walks of heap.Init, heap.Pop, heap.Push over a queue of needles. -/
import Derived.Test.YtjifekdjkjnefaaH6
namespace Go.Proofs.Ytjifekdjkjnefaa
open Go.RowKit

set_option maxRecDepth 100000 in
set_option maxHeartbeats 4000000 in
theorem init_any (w0 : World) (b : Nat) (E : List Ent) (hl : E.length ≤ 100000) (W : World) (h : QM w0 b E W) :
    Calls Try.prog 25 #[.iface 53 (.pointer (some ⟨b, 0, none⟩))] W fun e w' => e = .returned (.tuple #[]) ∧ ∃ E', QM w0 b E' w' ∧ HF W w' ∧ HP E'.length 0 (ndE E') ∧ SameN (ndE E') (ndE E) := by
  obtain ⟨A, c, hb1, _⟩ := h.box
  have hc := row_cell hb1 0 _ rfl
  change W.cell? ⟨b, 0, none⟩ = some (.slice A E.length c) at hc
  have HQ0 := Lib.hid (QD.refl (n := E.length) (lo := 0) h hc)
  have hm := meth_len b W _ hc
  have HLEN := Lib.hid (qlen_any A E.length c W)
  have HF0 := Lib.hid (HP.first E.length (ndE E))
  obtain ⟨n, hn⟩ : ∃ n, n = E.length := ⟨_, rfl⟩
  have HDN : Hid (∀ W' E1 (i : Nat), i ≤ n → QD w0 b E (.slice A n c) W n 0 E1 W' → HP n (i + 1) (ndE E1) → Calls Try.prog 36 #[.iface 53 (.pointer (some ⟨b, 0, none⟩)), .int .i64 i, .int .i64 n] W' fun e w' => RetB e ∧ ∃ E2, QD w0 b E (.slice A n c) W n 0 E2 w' ∧ HP n i (ndE E2)) := Lib.hid fun W' E1 i hi hq hp => by
    refine (down_any w0 b n i i E1 (.slice A n c) (by rw [hq.len, hn]; exact Nat.le_refl _) (by rw [hq.len]; exact hl) (by omega) (Nat.le_refl _) hp.next W' hq.q hq.cell).mono fun e w' ⟨he, E2, hq2, hp2⟩ => ⟨he, E2, ⟨hq2.q, hq.hf.trans hq2.hf, hq2.same.trans hq.same, hq2.len.trans hq.len, fun k hk => (hq2.over k hk).trans (hq.over k hk), hq2.cell, hq.fr.trans' hq2.fr⟩, hp2⟩
  rw [← hn] at HQ0 hm HLEN HF0 hl
  have HN := Lib.hid hn
  clear h hb1 hc hn
  go_enter Try.func25, Try.ntmps25
  have hq0 : IntKind.i64.wrap ((n : Int).tdiv 2) = ((n / 2 : Nat) : Int) := by
    rw [Int.tdiv_eq_ediv_of_nonneg (by omega), IntKind.wrap_i64]
    omega
  obtain ⟨m, hm2⟩ : ∃ m, m = n / 2 := ⟨_, rfl⟩
  rw [← hm2] at hq0 HF0
  have hq1 : IntKind.i64.wrap ((m : Int) - 1) = (m : Int) - 1 := IntWalk.i64_in _ (by omega)
  have hmn : m ≤ n := by omega
  have HM2 : Hid ((n : Int) / 2 - 1 = (m : Int) - 1) := Lib.hid (by omega)
  clear hm2
  go_wp2_with (go_at_call 26; (with_reducible refine (HLEN.out).mono ?_); rintro e w1 ⟨rfl, rfl⟩)
  go_loopw [3] (fun q wr => ∃ (k : Nat) (E1 : List Ent), q = .int .i64 ((k : Int) - 1) ∧ k ≤ m ∧ Hid (QD w0 b E (.slice A n c) W n 0 E1 wr) ∧ Hid (HP n k (ndE E1))) (fun q _ => (intOf q + 1).toNat)
  case atStart => exact ⟨m, E, by rw [HM2.out], Nat.le_refl _, HQ0, HF0⟩
  case round =>
    obtain ⟨k, E1, rfl, hk, HQ, HPP⟩ := hrel
    cases k with
    | zero =>
      have hneg : ¬ ((0 : Int) ≤ ((0 : Nat) : Int) - 1) := by omega
      have HLL : Hid (n = E1.length) := Lib.hid (by rw [HQ.out.len]; exact HN.out)
      go_wp2
      go_end0
      exact ⟨rfl, E1, HQ.out.q, HQ.out.hf, by rw [← HLL.out]; exact HPP.out, HQ.out.same⟩
    | succ i =>
      have hi1 : ((i + 1 : Nat) : Int) - 1 = (i : Int) := by omega
      have hi2 : (i : Int) + 1 - 1 = (i : Int) := by omega
      have hge : (0 : Int) ≤ (i : Int) := by omega
      have hwi : IntKind.i64.wrap ((i : Int) - 1) = (i : Int) - 1 := IntWalk.i64_in _ (by omega)
      have HD := Lib.hid (HDN.out wr E1 i (by omega) HQ.out HPP.out)
      clear HQ HPP
      rw [hi1]
      go_wp2_with (go_at_call 36; (with_reducible refine (HD.out).mono ?_); rintro e w2 ⟨⟨r, rfl⟩, E2, hq2, hp2⟩; have HQ2 := Lib.hid hq2; have HP2 := Lib.hid hp2; clear hq2 hp2 HD)
      go_roundw
      case rel => exact ⟨i, E2, by go_num, by omega, HQ2, HP2⟩
      case measure => (simp [intOf] <;> omega)
/-- What lies in a queue, and the box of a value that came off it. -/
theorem QM.boxed {w0 W : World} {b : Nat} {E : List Ent} (h : QM w0 b E W) : ∃ v, W.cell? ⟨b, 0, none⟩ = some v := by
  obtain ⟨A, c, hb1, _⟩ := h.box
  exact ⟨_, row_cell hb1 0 _ rfl⟩
theorem enA_take {E : List Ent} {n k : Nat} (h : k < n) : enA (E.take n) k = enA E k := by
  unfold enA
  rw [List.getElem?_take, if_pos h]
set_option maxRecDepth 100000 in
set_option maxHeartbeats 4000000 in
/-- The queue's own Pop: the last one. -/
theorem qpop_any (w0 : World) (b n : Nat) (E : List Ent) (hn : E.length = n + 1) (hl : n ≤ 100000) (W : World) (h : QM w0 b E W) :
    Calls Try.prog 64 #[.pointer (some ⟨b, 0, none⟩)] W fun e w' => e = .returned (.iface 51 (.agg #[.int .i64 ((enA E n).1.1 : Nat), (enA E n).2])) ∧ QM w0 b (E.take n) w' ∧ HF W w' := by
  obtain ⟨G, c, cur, h1, h2, h3, h4, h5, h6, h7⟩ := h.row (by omega)
  obtain ⟨gi, oi, ci, ui, i1, i2, i3, i4, i5, i6⟩ := h.ent (k := n) (by omega)
  have k1 := h7.2 n (by omega)
  rw [i1] at k1 ⊢
  have c0 := row_cell h3 _ _ k1.1
  have c1 := row_cell h3 _ _ k1.2
  have cb := row_cell h1 0 _ rfl
  change W.cell? ⟨b, 0, none⟩ = some (.slice (some ⟨G, 0, none⟩) E.length c) at cb
  rw [hn] at cb h4
  obtain ⟨V1, hV1⟩ : ∃ V1, V1 = (W.setCell ⟨G, n * 2, none⟩ (.int .i64 0)).setCell ⟨G, n * 2 + 1, none⟩ (.slice none 0 0) := ⟨_, rfl⟩
  have g1 := row_set h3 (n * 2) (.int .i64 0)
  have g2 := row_set g1 (n * 2 + 1) (.slice none 0 0)
  have hbG : b ≠ G := by omega
  have cbh : (W.setCell ⟨G, n * 2, none⟩ (.int .i64 0)).heap[b]? = some (.cells #[.slice (some ⟨G, 0, none⟩) E.length c] 49 (0, 0)) := (Below.heap_setCell _ _ _ b hbG).trans h1
  have cbh2 : ((W.setCell ⟨G, n * 2, none⟩ (.int .i64 0)).setCell ⟨G, n * 2 + 1, none⟩ (.slice none 0 0)).heap[b]? = some (.cells #[.slice (some ⟨G, 0, none⟩) E.length c] 49 (0, 0)) := (Below.heap_setCell _ _ _ b hbG).trans cbh
  have hbs := (Array.getElem?_eq_some_iff.1 h1).1
  have hGs := (Array.getElem?_eq_some_iff.1 h3).1
  have al : ∀ (V : World) (o : Obj) (x k : Nat), x < V.heap.size → (V.alloc o).cell? ⟨x, k, none⟩ = V.cell? ⟨x, k, none⟩ ∧ (V.alloc o).frozen? ⟨x, k, none⟩ = V.frozen? ⟨x, k, none⟩ := fun V o x k hx => ⟨(belA (Below.refl V.heap.size V) o).cell (p := ⟨x, k, none⟩) hx, (belA (Below.refl V.heap.size V) o).frozen (p := ⟨x, k, none⟩) hx⟩
  have hs1 : (W.setCell ⟨G, n * 2, none⟩ (.int .i64 0)).heap.size = W.heap.size := World.size_setCell _ _ _
  have hs2 : ((W.setCell ⟨G, n * 2, none⟩ (.int .i64 0)).setCell ⟨G, n * 2 + 1, none⟩ (.slice none 0 0)).heap.size = W.heap.size := by rw [World.size_setCell, hs1]
  have q1 := fun o => (al W o b 0 hbs).1.trans cb
  have q2 := fun o => (al W o G (n * 2) hGs).1.trans c0
  have q3 := fun o => (al W o G (n * 2) hGs).2.trans (row_free h3 _)
  obtain ⟨x1, e1⟩ := row_has g1 (n * 2 + 1) (by simp; omega)
  have q4 := fun o => (al _ o G (n * 2 + 1) (by rw [hs1]; exact hGs)).1.trans e1
  have q5 := fun o => (al _ o G (n * 2 + 1) (by rw [hs1]; exact hGs)).2.trans (row_free g1 _)
  have cb2 : ((W.setCell ⟨G, n * 2, none⟩ (.int .i64 0)).setCell ⟨G, n * 2 + 1, none⟩ (.slice none 0 0)).cell? ⟨b, 0, none⟩ = some (.slice (some ⟨G, 0, none⟩) (n + 1) c) := by rw [← hn]; exact row_cell cbh2 0 _ rfl
  have q6 := fun o => (al _ o b 0 (by rw [hs2]; exact hbs)).1.trans cb2
  have q7 := fun o => (al _ o b 0 (by rw [hs2]; exact hbs)).2.trans (row_free cbh2 _)
  have g3 := row_set cbh2 0 (.slice (some ⟨G, 0, none⟩) n c)
  have g4 : (((W.setCell ⟨G, n * 2, none⟩ (.int .i64 0)).setCell ⟨G, n * 2 + 1, none⟩ (.slice none 0 0)).setCell ⟨b, 0, none⟩ (.slice (some ⟨G, 0, none⟩) n c)).heap[G]? = _ := (Below.heap_setCell _ _ _ G (fun e => hbG e.symm)).trans g2
  have HFIN : Hid (∀ o, QM w0 b (E.take n) ((((W.setCell ⟨G, n * 2, none⟩ (.int .i64 0)).setCell ⟨G, n * 2 + 1, none⟩ (.slice none 0 0)).setCell ⟨b, 0, none⟩ (.slice (some ⟨G, 0, none⟩) n c)).alloc o) ∧ HF W ((((W.setCell ⟨G, n * 2, none⟩ (.int .i64 0)).setCell ⟨G, n * 2 + 1, none⟩ (.slice none 0 0)).setCell ⟨b, 0, none⟩ (.slice (some ⟨G, 0, none⟩) n c)).alloc o)) := Lib.hid fun o => by
    obtain ⟨V, hV⟩ : ∃ V, V = ((W.setCell ⟨G, n * 2, none⟩ (.int .i64 0)).setCell ⟨G, n * 2 + 1, none⟩ (.slice none 0 0)).setCell ⟨b, 0, none⟩ (.slice (some ⟨G, 0, none⟩) n c) := ⟨_, rfl⟩
    rw [← hV] at g3 g4 ⊢
    have hsV : V.heap.size = W.heap.size := by rw [hV, World.size_setCell, hs2]
    have hh : ∀ k, k ≠ G → k ≠ b → V.heap[k]? = W.heap[k]? := fun k hk hkb => by
      rw [hV]
      exact (Below.heap_setCell _ _ _ k hkb).trans ((Below.heap_setCell _ _ _ k hk).trans (Below.heap_setCell _ _ _ k hk))
    have hHF : HF W V := ⟨by rw [hsV]; exact Nat.le_refl _, fun k u t fz hk n1 n2 => by
      by_cases e : k = G
      · subst e
        rw [h3] at hk
        simp only [Option.some.injEq, Obj.cells.injEq] at hk
        exact absurd hk.2.1.symm n1
      · by_cases e2 : k = b
        · subst e2
          rw [h1] at hk
          simp only [Option.some.injEq, Obj.cells.injEq] at hk
          exact absurd hk.2.1.symm n2
        · exact (hh k e e2).trans hk⟩
    have hle := h.le
    have hbel : Below w0.heap.size w0 V := ⟨by rw [hV]; exact h.below.os, by rw [hV]; exact h.below.tape, by rw [hV]; exact h.below.output, by rw [hsV]; exact h.below.size, fun k hk => (hh k (by omega) (by omega)).trans (h.below.block k hk)⟩
    have htl : (E.take n).length = n := by rw [List.length_take]; omega
    have hqm : QM w0 b (E.take n) V := by
      refine QM.mk' hbel h.le (by rw [htl]; exact g3) h2 g4 (by rw [htl]; omega) h5 (by simpa using h6) ⟨by rw [htl]; have := h7.1; simp; omega, fun k hk => ?_⟩ (fun e he => (h.pr e (List.mem_of_mem_take he)).hf hHF)
      rw [htl] at hk
      rw [enA_take hk]
      have := h7.2 k (by omega)
      rw [Array.getElem?_setIfInBounds, if_neg (by omega), Array.getElem?_setIfInBounds, if_neg (by omega), Array.getElem?_setIfInBounds, if_neg (by omega), Array.getElem?_setIfInBounds, if_neg (by omega)]
      exact this
    exact ⟨hqm.past (belA (Below.refl _ _) o), hHF.trans (HF.below (belA (Below.refl _ _) o))⟩
  have hw0 : IntKind.i64.wrap ((n : Int) + 1 - 1) = n := by rw [IntKind.wrap_i64]; omega
  have hni : (n : Int) < (n : Int) + 1 := by omega
  have hnc : (n : Int) ≤ c := by omega
  have hn1 : (n : Int) ≤ (n : Int) + 1 := by omega
  clear h h1 h2 h3 h4 h5 h6 h7 i1 i2 i3 i4 i5 i6 k1 g1 g2 g3 g4 cbh cbh2 al hs1 hs2 e1 cb2 hn
  generalize (enA E n).1.1 = wi at *
  generalize (enA E n).1.2.length = ni at *
  clear hV1 V1
  go_enter Try.func64, Try.ntmps64
  go_wp2
  go_ret
  exact ⟨rfl, (HFIN.out _).1, (HFIN.out _).2⟩
set_option maxRecDepth 100000 in
set_option maxHeartbeats 4000000 in
theorem pop_any (w0 : World) (b n : Nat) (E : List Ent) (hn : E.length = n + 1) (hl : n ≤ 90000) (hH : HP (n + 1) 0 (ndE E)) (W : World) (h : QM w0 b E W) :
    Calls Try.prog 27 #[.iface 53 (.pointer (some ⟨b, 0, none⟩))] W fun e w' => e = .returned (.iface 51 (.agg #[.int .i64 ((enA E 0).1.1 : Nat), (enA E 0).2])) ∧ HF W w' ∧ ∃ E', QM w0 b E' w' ∧ E'.length = n ∧ HP n 0 (ndE E') ∧ SameN (ndE E' ++ [(enA E 0).1]) (ndE E) := by
  obtain ⟨A, c, hb1, _⟩ := h.box
  have hc : W.cell? ⟨b, 0, none⟩ = some (.slice A E.length c) := row_cell hb1 0 _ rfl
  have hm := meth_len b W _ hc
  have hm2 := meth_swap b W _ hc
  have HLEN := Lib.hid (qlen_any A E.length c W)
  have HSW : Hid (Calls Try.prog 63 #[.slice A E.length c, .int .i64 0, .int .i64 n] W fun e w' => e = .returned (.tuple #[]) ∧ QM w0 b (swE E 0 n) w' ∧ HF W w' ∧ w'.cell? ⟨b, 0, none⟩ = some (.slice A E.length c) ∧ FrO (QO b) W w') := Lib.hid (h.swap _ hc 0 n (by omega) (by omega))
  have HD : Hid (∀ W1, QM w0 b (swE E 0 n) W1 → W1.cell? ⟨b, 0, none⟩ = some (.slice A E.length c) → Calls Try.prog 36 #[.iface 53 (.pointer (some ⟨b, 0, none⟩)), .int .i64 0, .int .i64 n] W1 fun e w' => RetB e ∧ ∃ E', QD w0 b (swE E 0 n) (.slice A E.length c) W1 n 0 E' w' ∧ HP n 0 (ndE E')) := Lib.hid fun W1 hq hc1 => by
    refine down_any w0 b n 0 0 (swE E 0 n) _ (by rw [swE_len]; omega) (by rw [swE_len]; omega) (by omega) (Nat.le_refl _) ?_ W1 hq hc1
    rw [ndE_swE E 0 n (by omega) (by omega)]
    exact hH.pop (by rw [ndE_len]; exact hn)
  have HQP : Hid (∀ W2 E', QM w0 b E' W2 → E'.length = n + 1 → Calls Try.prog 64 #[.pointer (some ⟨b, 0, none⟩)] W2 fun e w' => e = .returned (.iface 51 (.agg #[.int .i64 ((enA E' n).1.1 : Nat), (enA E' n).2])) ∧ QM w0 b (E'.take n) w' ∧ HF W2 w') := Lib.hid fun W2 E' hq hE => qpop_any w0 b n E' hE (by omega) W2 hq
  have HFIN : Hid (∀ W1 E' W2, QD w0 b (swE E 0 n) (.slice A E.length c) W1 n 0 E' W2 → HP n 0 (ndE E') → E'.length = n + 1 ∧ enA E' n = enA E 0 ∧ (E'.take n).length = n ∧ HP n 0 (ndE (E'.take n)) ∧ SameN (ndE (E'.take n) ++ [(enA E 0).1]) (ndE E)) := Lib.hid fun W1 E' W2 hq hp => by
    have hE' : E'.length = n + 1 := by rw [hq.len, swE_len]; exact hn
    have hat : enA E' n = enA E 0 := by rw [hq.over n (Nat.le_refl _), swE_at E 0 n n (by omega) (by omega), if_pos rfl]
    have hky : ∀ k, k < n → ky (ndE (E'.take n)) k = ky (ndE E') k := fun k hk => by
      unfold ky
      rw [ndE_at _ k (by rw [List.length_take]; omega), ndE_at _ k (by omega), enA_take hk]
    refine ⟨hE', hat, by rw [List.length_take]; omega, fun k h0 hk hl => ?_, ?_⟩
    · rw [hky k hk, hky _ (by omega)]
      exact hp k h0 hk hl
    · have e1 : ndE E' = ndE (E'.take n) ++ [(enA E' n).1] := by
        have h1 : E' = E'.take n ++ [enA E' n] := by
          have h2 : E'.drop n = [enA E' n] := by
            rw [List.drop_eq_getElem_cons (by omega), List.drop_eq_nil_of_le (by omega)]
            unfold enA
            rw [List.getElem?_eq_getElem (by omega)]
            rfl
          rw [← h2, List.take_append_drop]
        conv => lhs; rw [h1]
        simp [ndE]
      rw [← hat, ← e1]
      refine hq.same.trans ?_
      rw [ndE_swE E 0 n (by omega) (by omega)]
      exact same_swp _ 0 n (by rw [ndE_len]; omega) (by rw [ndE_len]; omega)
  have hw0 : IntKind.i64.wrap (((n + 1 : Nat) : Int) - 1) = n := by rw [IntKind.wrap_i64]; omega
  have hw1 : IntKind.i64.wrap ((n : Int) + 1 - 1) = n := by rw [IntKind.wrap_i64]; omega
  clear h hb1 hc hH
  rw [hn] at hm hm2 HLEN HSW HD HFIN
  go_enter Try.func27, Try.ntmps27
  go_wp2_with (first
    | (go_at_call 26; (with_reducible refine (HLEN.out).mono ?_); rintro e w1 ⟨rfl, rfl⟩)
    | (go_at_call 63; (with_reducible refine (HSW.out).mono ?_); rintro e w2 ⟨rfl, hq2, hf2, hc2, _⟩; have HQ2 := Lib.hid hq2; have HF2 := Lib.hid hf2; have HC2 := Lib.hid hc2; clear hq2 hf2 hc2 HSW)
    | (go_at_call 36; (with_reducible refine (HD.out w2 HQ2.out HC2.out).mono ?_); rintro e w3 ⟨⟨r, rfl⟩, E3, hq3, hp3⟩; have hm3 := meth_pop b w3; have HE3 := Lib.hid (HFIN.out w2 E3 w3 hq3 hp3); have HQ3 := Lib.hid hq3; clear hq3 hp3 HD)
    | (go_at_call 64; (with_reducible refine (HQP.out w3 E3 HQ3.out.q HE3.out.1).mono ?_); rintro e w4 ⟨rfl, hq4, hf4⟩; have HQ4 := Lib.hid hq4; have HF4 := Lib.hid hf4; clear hq4 hf4 HQP))
  go_ret
  exact ⟨by rw [← HE3.out.2.1]; rfl, (HF2.out.trans HQ3.out.hf).trans HF4.out, _, HQ4.out, HE3.out.2.2.1, HE3.out.2.2.2.1, HE3.out.2.2.2.2⟩

end Go.Proofs.Ytjifekdjkjnefaa
