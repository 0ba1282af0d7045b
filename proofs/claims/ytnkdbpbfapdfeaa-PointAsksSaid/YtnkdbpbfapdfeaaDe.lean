/- slices.DeleteFunc at places: those whose row goes are left out. -/
import Derived.Test.YtnkdbpbfapdfeaaDd
import Derived.Lib.SliceRun
namespace Go.Proofs.Ytnkdbpbfapdfeaa
open Go.RowKit

theorem zeros_pl (n : Nat) : (Builtin.zeroCells (Value.agg #[.int .i64 0, .int .i64 0]).cells n).toList = plC (List.replicate n (0, 0)) := by
  apply List.ext_getElem
  · rw [plC_len]
    simp [Builtin.zeroCells, Value.cells]
  · intro i h1 h2
    have hl : i < n * 2 := by rw [plC_len] at h2; simpa using h2
    have ha := plC_at (List.replicate n (0, 0)) (i / 2) (by simp; omega)
    have hg : (List.replicate n ((0 : Int), (0 : Int)))[i / 2]?.getD (0, 0) = (0, 0) := by
      rw [List.getElem?_replicate]
      split <;> rfl
    rw [hg] at ha
    have hv : (plC (List.replicate n (0, 0)))[i]? = some (.int .i64 0) := by
      rcases (by omega : i = i / 2 * 2 ∨ i = i / 2 * 2 + 1) with e | e
      · rw [e]; exact ha.1
      · rw [e]; exact ha.2
    rw [List.getElem?_eq_getElem h2] at hv
    injection hv with hv
    rw [hv]
    rcases (by omega : i % 2 = 0 ∨ i % 2 = 1) with e | e
    · simp [Builtin.zeroCells, Value.cells, e]
    · simp [Builtin.zeroCells, Value.cells, e]
theorem run_clear_places (w : World) (ty : TypeId) (b o n c : Nat) (hn : 0 < n) (hc : ∀ j, j < n * 2 → (w.cell? ⟨b, o + j, none⟩).isSome = true) (hf : ∀ j, j < n * 2 → w.frozen? ⟨b, o + j, none⟩ = false) :
    (Builtin.clear_ #[40] ty #[.slice (some ⟨b, o, none⟩) n c]).run Try.prog w = .ok (.tuple #[]) (w.setCells b o (plC (List.replicate n (0, 0)))) := by
  have ht : Try.prog.underlying 40 = some (.slice 30) := by kernel_rfl
  have hlen : (plC (List.replicate n (0, 0))).length = n * 2 := by rw [plC_len]; simp
  have hst := run_storeCells_cells (P := Try.prog) b o (plC (List.replicate n (0, 0))) 0 w (by simpa [hlen] using hc) (by simpa [hlen] using hf) (by intro v hv'; exact plC_one _ v hv')
  simp only [Nat.add_zero] at hst
  obtain ⟨m, rfl⟩ : ∃ m, n = m + 1 := ⟨n - 1, by omega⟩
  have hz : ∀ w, (zeroValue 30).run Try.prog w = .ok (.agg #[.int .i64 0, .int .i64 0]) w := Try.zeroValue30
  simp [Builtin.clear_, run_underlying ht, hz, zeros_pl, hst]

/-- A row of which a part has been looked at: what is kept lies ahead, what is left behind is as it was. -/
structure KI (p : Int × Int → Bool) (L M : List (Int × Int)) (i j : Nat) : Prop where
  len : M.length = L.length
  lt : i < j
  le : j ≤ L.length
  tk : M.take i = (L.take j).filter p
  dr : M.drop j = L.drop j
theorem filter_all {p : Int × Int → Bool} (L : List (Int × Int)) (r : Nat) (h : ∀ i, i < r → p (At L i) = true) : (L.take r).filter p = L.take r := by
  refine List.filter_eq_self.2 fun x hx => ?_
  obtain ⟨i, hi, rfl⟩ := List.getElem_of_mem hx
  have hi2 : i < r := by simp at hi; omega
  have hi3 : i < L.length := by simp at hi; omega
  have := h i hi2
  unfold At at this
  rw [List.getElem?_eq_getElem hi3] at this
  simpa using this
theorem take_one (L : List (Int × Int)) (j : Nat) (h : j < L.length) : L.take (j + 1) = L.take j ++ [At L j] := by
  rw [List.take_succ_eq_append_getElem h]
  unfold At
  rw [List.getElem?_eq_getElem h]
  rfl
theorem KI.start {p : Int × Int → Bool} {L : List (Int × Int)} {r : Nat} (hr : r < L.length) (h : ∀ i, i < r → p (At L i) = true) (h2 : p (At L r) = false) : KI p L L r (r + 1) := by
  refine ⟨rfl, Nat.lt_succ_self _, hr, ?_, rfl⟩
  rw [take_one L r hr, List.filter_append, filter_all L r h]
  simp [h2]
theorem KI.at {p : Int × Int → Bool} {L M : List (Int × Int)} {i j : Nat} (h : KI p L M i j) : At M j = At L j := by
  have e : (M.drop j)[0]? = (L.drop j)[0]? := by rw [h.dr]
  rw [List.getElem?_drop, List.getElem?_drop] at e
  unfold At
  simpa using congrArg (fun o : Option (Int × Int) => o.getD (0, 0)) e
theorem KI.keep {p : Int × Int → Bool} {L M : List (Int × Int)} {i j : Nat} (h : KI p L M i j) (hj : j < L.length) (hp : p (At L j) = true) : KI p L (M.set i (At L j)) (i + 1) (j + 1) := by
  have hlt := h.lt
  have hM : i < M.length := by rw [h.len]; omega
  refine ⟨by rw [List.length_set]; exact h.len, by omega, hj, ?_, ?_⟩
  · rw [take_one L j hj, List.filter_append, ← h.tk, List.take_succ_eq_append_getElem (by simpa using hM), List.take_set_of_le (Nat.le_refl _)]
    simp [hp]
  · rw [List.drop_set_of_lt (by omega)]
    have e : (M.drop j).drop 1 = (L.drop j).drop 1 := by rw [h.dr]
    simpa [List.drop_drop] using e
theorem KI.skip {p : Int × Int → Bool} {L M : List (Int × Int)} {i j : Nat} (h : KI p L M i j) (hj : j < L.length) (hp : p (At L j) = false) : KI p L M i (j + 1) := by
  have hlt := h.lt
  refine ⟨h.len, by omega, hj, ?_, ?_⟩
  · rw [take_one L j hj, List.filter_append, ← h.tk]
    simp [hp]
  · have e : (M.drop j).drop 1 = (L.drop j).drop 1 := by rw [h.dr]
    simpa [List.drop_drop] using e
theorem KI.end {p : Int × Int → Bool} {L M : List (Int × Int)} {i : Nat} (h : KI p L M i L.length) : M.take i = L.filter p := by
  rw [h.tk, List.take_of_length_le (Nat.le_refl _)]

/-- What a row's cells hold. -/
theorem OR.two {w : World} {g off n c : Nat} {L : List (Int × Int)} (h : OR w (.slice (some ⟨g, off, none⟩) n c) n (plC L)) (i : Nat) (hi : i < L.length) :
    w.cell? ⟨g, off + i * 2, none⟩ = some (.int .i64 (At L i).1) ∧ w.cell? ⟨g, off + i * 2 + 1, none⟩ = some (.int .i64 (At L i).2) ∧ ∀ k, w.frozen? ⟨g, k, none⟩ = false := by
  refine ⟨(h.cell (plC_at L i hi).1).1, ?_, (h.cell (plC_at L i hi).1).2⟩
  have := (h.cell (plC_at L i hi).2).1
  rwa [← Nat.add_assoc] at this
theorem OR.setP {w : World} {g off n c : Nat} {L : List (Int × Int)} (h : OR w (.slice (some ⟨g, off, none⟩) n c) n (plC L)) (i : Nat) (hi : i < L.length) (x : Int × Int) :
    OR ((w.setCell ⟨g, off + i * 2, none⟩ (.int .i64 x.1)).setCell ⟨g, off + i * 2 + 1, none⟩ (.int .i64 x.2)) (.slice (some ⟨g, off, none⟩) n c) n (plC (L.set i x)) := by
  have hn : n = L.length := by have := h.1; rw [plC_len] at this; omega
  rcases h.2 with ⟨h0, _⟩ | ⟨g', off', cap, cur, e, hh, h1, h2, h3, hr⟩
  · simp at h0
  · simp only [Value.slice.injEq, Option.some.injEq, Addr.mk.injEq, and_true, true_and] at e
    obtain ⟨⟨rfl, rfl⟩, rfl⟩ := e
    have hh1 := heap_setCell_same w g (off + i * 2) cur _ (.int .i64 x.1) hh
    have hh2 := heap_setCell_same _ g (off + i * 2 + 1) _ _ (.int .i64 x.2) hh1
    refine ⟨by rw [plC_len, List.length_set, hn], .inr ⟨g, off, c, _, rfl, hh2, h1, h2, by simpa using h3, fun j u hu => ?_⟩⟩
    rw [plC_set L i x hi, List.getElem?_set, List.getElem?_set] at hu
    have hsz : ∀ t, t < L.length * 2 → off + t < cur.size := fun t ht => by omega
    by_cases e2 : i * 2 + 1 = j
    · subst e2
      rw [if_pos rfl] at hu
      rw [← Nat.add_assoc, cell_of_row _ g _ _ _ _ hh2]
      have := hsz (i * 2 + 1) (by omega)
      split at hu
      · rw [← hu]
        exact Array.getElem?_setIfInBounds_self_of_lt (by rw [Array.size_setIfInBounds]; omega)
      · cases hu
    · rw [if_neg e2] at hu
      rw [World.cell?_setCell_other _ _ _ _ (by simp <;> omega)]
      by_cases e1 : i * 2 = j
      · subst e1
        rw [if_pos rfl] at hu
        rw [cell_of_row _ g _ _ _ _ hh1]
        have := hsz (i * 2) (by omega)
        split at hu
        · rw [← hu]
          exact Array.getElem?_setIfInBounds_self_of_lt (by omega)
        · cases hu
      · rw [if_neg e1] at hu
        rw [World.cell?_setCell_other _ _ _ _ (by simp <;> omega)]
        exact hr j u hu
/-- A slice of the first i. -/
theorem OR.cutP {w : World} {g off n c : Nat} {L : List (Int × Int)} (h : OR w (.slice (some ⟨g, off, none⟩) n c) n (plC L)) (i : Nat) (hi : i ≤ L.length) :
    OR w (.slice (some ⟨g, off, none⟩) i c) i (plC (L.take i)) := by
  have hn : n = L.length := by have := h.1; rw [plC_len] at this; omega
  rcases h.2 with ⟨h0, _⟩ | ⟨g', off', cap, cur, e, hh, h1, h2, h3, hr⟩
  · simp at h0
  · simp only [Value.slice.injEq, Option.some.injEq, Addr.mk.injEq, and_true, true_and] at e
    obtain ⟨⟨rfl, rfl⟩, rfl⟩ := e
    refine ⟨by rw [plC_len, List.length_take]; omega, .inr ⟨g, off, c, cur, rfl, hh, by omega, h2, h3, fun j u hu => hr j u ?_⟩⟩
    rw [show plC L = plC (L.take i) ++ plC (L.drop i) by rw [← plC_app, List.take_append_drop], List.getElem?_append_left (List.getElem?_eq_some_iff.1 hu).1]
    exact hu
/-- What lies behind the first i is written over. -/
theorem OR.overP {w : World} {g off n c : Nat} {L : List (Int × Int)} (h : OR w (.slice (some ⟨g, off, none⟩) n c) n (plC L)) (i : Nat) (hi : i ≤ L.length) (vs : List Value) :
    OR (w.setCells g (off + i * 2) vs) (.slice (some ⟨g, off, none⟩) i c) i (plC (L.take i)) := by
  have hc := h.cutP i hi
  rcases hc.2 with ⟨h0, _⟩ | ⟨g', off', cap, cur, e, hh, h1, h2, h3, hr⟩
  · simp at h0
  · simp only [Value.slice.injEq, Option.some.injEq, Addr.mk.injEq, and_true, true_and] at e
    obtain ⟨⟨rfl, rfl⟩, rfl⟩ := e
    obtain ⟨cur', hh', hs⟩ := heap_setCells_same g 30 vs (off + i * 2) w cur hh
    refine ⟨hc.1, .inr ⟨g, off, c, cur', rfl, hh', h1, h2, by rw [hs]; exact h3, ?_⟩⟩
    exact World.rangeAt_setCells_apart hr g (off + i * 2) vs (.inr (.inl (by rw [hc.1]; exact Nat.le_refl _)))
theorem KB.setCells {S : Nat → Prop} {b : Nat} (hs : S b) : ∀ (vs : List Value) (o : Nat) (w : World), KB S w (w.setCells b o vs)
  | [], _, w => KB.refl S w
  | v :: r, o, w => by
    rw [World.setCells]
    exact (KB.set o v hs).trans (KB.setCells hs r (o + 1) _) fun _ _ e => e

def keepB (k a n : Int) (p : Int × Int) : Bool := !lostB p.1 p.2 k a n
set_option maxRecDepth 100000 in
set_option maxHeartbeats 4000000 in
theorem deleteLost_any (Q : Nat) (k a n : Int) (v : Value) (L : List (Int × Int)) (hl : L.length ≤ 1000000) (w : World) (h : OR w v L.length (plC L)) (hQ : w.heap[Q]? = some (.cells #[.int .i64 k, .int .i64 a, .int .i64 n] 32 (0, 0))) :
    Calls Try.prog 39 #[v, .func (.func 40) #[] #[.pointer (some ⟨Q, 0, none⟩)]] w fun e w' => ∃ v', e = .returned v' ∧ OR w' v' (L.filter (keepB k a n)).length (plC (L.filter (keepB k a n))) ∧ KB (fun i => some i = v.ownBlock) w w' ∧ v'.ownBlock = v.ownBlock := by
  obtain ⟨r, hr, hlo, hhi⟩ := firstP (fun p => lostB p.1 p.2 k a n) L
  obtain ⟨A, c, rfl⟩ := h.shape
  have hR := h.rpl rfl
  by_cases hrl : r < L.length
  · have HI := Lib.hid (indexLost_any Q k a n A L L.length c rfl hl w hR hQ r r hr hlo (fun hh => ⟨hhi hh, rfl⟩) (fun e => by omega))
    obtain ⟨b, off, rfl, _, _⟩ := hR (fun e => by rw [e] at hrl; simp at hrl)
    have HK0 := Lib.hid (KI.start (p := keepB k a n) hrl (fun i hi => by unfold keepB; rw [hlo i hi]; rfl) (by unfold keepB; rw [hhi hrl]; rfl))
    have HM := Lib.hid h
    have HQ := Lib.hid hQ
    have hneg : ((r : Int) == -1) = false := by simp only [beq_eq_false_iff_ne, ne_eq]; omega
    have hbQ : b ≠ Q := fun e => by
      obtain ⟨cur, hc⟩ := (h.lt b rfl).2
      rw [e, hQ] at hc
      injection hc with hc
      injection hc with _ h1 _
      exact absurd h1 (by decide)
    have hcap : L.length ≤ c := by
      rcases h.2 with ⟨h0, _⟩ | ⟨g', off', cap, cur, e, _, h1, _⟩
      · simp at h0
      · injection e with _ _ e3
        omega
    clear h hQ hR hlo hhi
    go_enter Try.func39, Try.ntmps39
    go_wp2_with (go_at_call 49; (with_reducible refine (HI.out).mono ?_); rintro e w1 ⟨rfl, hb⟩; have HB0 := Lib.hid hb; clear hb)
    go_loopw [5, 6] (fun q u wr => ∃ (i j : Nat) (M : List (Int × Int)), q = .int .i64 i ∧ u = .int .i64 j ∧ i < j ∧ j ≤ L.length ∧ Hid (KI (keepB k a n) L M i j) ∧ Hid (OR wr (.slice (some ⟨b, off, none⟩) L.length c) L.length (plC M)) ∧ Hid (KB (fun i => i = b) w wr)) (fun _ u _ => L.length - (intOf u).toNat)
    case atStart => exact ⟨r, r + 1, L, rfl, by go_num, by omega, hrl, HK0, Lib.hid (HM.out.kept (KB.of_below (S := fun _ => False) HB0.out) fun _ _ e => e), Lib.hid (KB.of_below HB0.out)⟩
    case round =>
      obtain ⟨i, j, M, rfl, rfl, hij, hj, HKI, HO, HKB⟩ := hrel
      by_cases hlt : j < L.length
      · have hji : (j : Int) < L.length := by omega
        have hii : (i : Int) < L.length := by omega
        obtain ⟨a0, a1, af⟩ := HO.out.two j (by rw [HKI.out.len]; exact hlt)
        rw [HKI.out.at] at a0 a1
        have hbl : b < wr.heap.size := (HO.out.lt b rfl).1
        have hQr : wr.heap[Q]? = some (.cells #[.int .i64 k, .int .i64 a, .int .i64 n] 32 (0, 0)) := (HKB.out.block Q (Array.getElem?_eq_some_iff.1 HQ.out).1 (fun e => hbQ e.symm)).trans HQ.out
        have HT := Lib.hid (fun o => shift1_any Q k a n (At L j).1 (At L j).2 (wr.alloc o) (Try.box_keep (belA (Below.refl _ _) o) hQr))
        have HW : Hid (∀ o w1, Below (wr.alloc o).heap.size (wr.alloc o) w1 → OR w1 (.slice (some ⟨b, off, none⟩) L.length c) L.length (plC M) ∧ KB (fun i => i = b) w w1 ∧ b < w1.heap.size) := Lib.hid fun o w1 hb => by
          have hb2 : Below wr.heap.size wr w1 := bel0 (belA (Below.refl _ _) o) hb
          exact ⟨HO.out.kept (KB.of_below (S := fun _ => False) hb2) (fun _ _ e => e), HKB.out.trans (KB.of_below (S := fun _ => False) hb2) (fun _ _ e => e.elim), Nat.lt_of_lt_of_le hbl hb2.size⟩
        cases hq : lostB (At L j).1 (At L j).2 k a n with
        | true =>
          rw [hq] at HT
          have HN := Lib.hid (HKI.out.skip hlt (by unfold keepB; rw [hq]; rfl))
          clear hq hQr HKI HO HKB
          generalize At L j = x at *
          go_wp2_with (go_at_call 40; (with_reducible refine (HT.out _).mono ?_); rintro e w2 ⟨rfl, hb⟩; have HZ := Lib.hid (HW.out _ _ hb); clear hb)
          go_roundw
          case rel => exact ⟨i, j + 1, M, rfl, by go_num, by omega, hlt, HN, Lib.hid HZ.out.1, Lib.hid HZ.out.2.1⟩
          case measure => simp [intOf]; omega
        | false =>
          rw [hq] at HT
          have HN := Lib.hid (HKI.out.keep hlt (by unfold keepB; rw [hq]; rfl))
          have hiM : i < M.length := by rw [HKI.out.len]; omega
          clear hq hQr HKI HO HKB
          generalize At L j = x at *
          have HBX : Hid (∀ w1, Below (wr.alloc (.cells #[.int .i64 x.1, .int .i64 x.2] 30)).heap.size (wr.alloc (.cells #[.int .i64 x.1, .int .i64 x.2] 30)) w1 → w1.heap[wr.heap.size]? = some (.cells #[.int .i64 x.1, .int .i64 x.2] 30 (0, 0))) := Lib.hid fun w1 hb => keep hb (heap_alloc_new wr _)
          go_wp2_with (go_at_call 40; (with_reducible refine (HT.out _).mono ?_); rintro e w2 ⟨rfl, hb⟩; have HZ := Lib.hid (HW.out _ _ hb); have HBY := HBX.out _ hb; have x0 := cell_of_row _ _ 0 _ _ _ HBY; have x1 := cell_of_row _ _ 1 _ _ _ HBY; clear hb HBY; obtain ⟨e0, e1, ef⟩ := HZ.out.1.two i hiM)
          go_roundw
          case rel => exact ⟨i + 1, j + 1, M.set i x, by go_num, by go_num, by omega, hlt, HN, Lib.hid (HZ.out.1.setP i hiM x), Lib.hid ((HZ.out.2.1.trans (KB.set (S := fun i => i = b) _ _ rfl) (fun _ _ e => e)).trans (KB.set (S := fun i => i = b) _ _ rfl) (fun _ _ e => e))⟩
          case measure => simp [intOf]; omega
      · obtain rfl : j = L.length := by omega
        have hjj : ¬ (L.length : Int) < L.length := by omega
        have hcl : ∀ ty, (Builtin.clear_ #[40] ty #[.slice (some ⟨b, off + i * 2, none⟩) (L.length - i) (c - i)]).run Try.prog wr = .ok (.tuple #[]) (wr.setCells b (off + i * 2) (plC (List.replicate (L.length - i) (0, 0)))) := fun ty =>
          run_clear_places wr ty b (off + i * 2) _ _ (by omega) (fun t ht => by
            have hx : ∃ u, (plC M)[i * 2 + t]? = some u := ⟨_, List.getElem?_eq_getElem (by rw [plC_len, HKI.out.len]; omega)⟩
            obtain ⟨u, hu⟩ := hx
            rw [Nat.add_assoc, (HO.out.cell hu).1]
            rfl) (fun t ht => (HO.out.two (L.length - 1) (by rw [HKI.out.len]; omega)).2.2 _)
        have hfl := HKI.out.end
        have hil : (L.filter (keepB k a n)).length = i := by rw [← hfl, List.length_take, HKI.out.len]; omega
        have HEND : Hid (OR (wr.setCells b (off + i * 2) (plC (List.replicate (L.length - i) (0, 0)))) (.slice (some ⟨b, off, none⟩) i c) i (plC (L.filter (keepB k a n))) ∧ KB (fun i => i = b) w (wr.setCells b (off + i * 2) (plC (List.replicate (L.length - i) (0, 0))))) := Lib.hid (by
          refine ⟨?_, HKB.out.trans (KB.setCells (S := fun i => i = b) rfl _ _ _) fun _ _ e => e⟩
          rw [← hfl]
          exact HO.out.overP i (by rw [HKI.out.len]; omega) _)
        have HIL := Lib.hid hil
        clear hfl hil HKI HO HKB
        have h1 : (i : Int) ≤ L.length := by omega
        have h2 : i ≤ L.length := by omega
        have h3 : (0 : Int) ≤ i := by omega
        have h4 : i < c := by omega
        go_wp2
        go_ret
        exact ⟨_, rfl, by rw [HIL.out]; exact HEND.out.1, ⟨HEND.out.2.os, HEND.out.2.tape, HEND.out.2.output, HEND.out.2.size, fun g hg hS => HEND.out.2.block g hg (fun e => hS (by rw [e]; rfl))⟩, rfl⟩
  · obtain rfl : r = L.length := by omega
    have HI := Lib.hid (indexLost_any Q k a n A L L.length c rfl hl w hR hQ L.length (-1) hr hlo (fun hh => by omega) (fun _ => rfl))
    have hf : L.filter (keepB k a n) = L := by
      have := filter_all (p := keepB k a n) L L.length (fun i hi => by unfold keepB; rw [hlo i hi]; rfl)
      rwa [List.take_of_length_le (Nat.le_refl _)] at this
    rw [hf]
    have HM := Lib.hid h
    clear h hQ hR hlo hhi hf
    go_enter Try.func39, Try.ntmps39
    go_wp2_with (go_at_call 49; (with_reducible refine (HI.out).mono ?_); rintro e w1 ⟨rfl, hb⟩; have HB := Lib.hid hb; clear hb)
    go_ret
    exact ⟨_, rfl, HM.out.kept (KB.of_below (S := fun _ => False) HB.out) (fun _ _ e => e), KB.of_below HB.out, rfl⟩
end Go.Proofs.Ytnkdbpbfapdfeaa
