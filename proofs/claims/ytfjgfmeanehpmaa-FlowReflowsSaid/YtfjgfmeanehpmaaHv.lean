/- The walk of flow.countOf. -/
import Derived.Test.YtfjgfmeanehpmaaHe
import Derived.Laws.OwnMore
import Derived.Laws.MakeOwn
namespace Go.Proofs.Ytfjgfmeanehpmaa
open Go.RowKit

theorem infoIntF : (Try.prog.info? 3).map (fun i => (i.zero, i.size, i.bytes)) = some (some (.int .i64 0), 1, 8) := by kernel_rfl
def intsV (cs : List Nat) : List Value := cs.map fun (x : Nat) => Value.int .i64 (x : Int)
theorem intsV_len (cs : List Nat) : (intsV cs).length = cs.length := by simp [intsV]
theorem intsV_set (cs : List Nat) (i x : Nat) : (intsV cs).set i (.int .i64 (x : Int)) = intsV (cs.set i x) := by
  unfold intsV
  rw [List.map_set]
def cntTo (r : Rw) (k : Nat) : Nat := ((r.c.take k).filter notPad).length
theorem cntTo_end (r : Rw) : cntTo r r.c.length = cnt r := by unfold cntTo cnt; rw [List.take_length]
theorem cntTo_le (r : Rw) (k : Nat) : cntTo r k ≤ cnt r := filter_take_le r.c k
theorem cntTo_yes (r : Rw) (k : Nat) (h : k < r.c.length) (hp : notPad (Ac r.c k) = true) : cntTo r (k + 1) = cntTo r k + 1 := by
  unfold cntTo
  rw [filter_take _ k h, if_pos hp, List.length_append]
  rfl
theorem cntTo_no (r : Rw) (k : Nat) (h : k < r.c.length) (hp : notPad (Ac r.c k) = false) : cntTo r (k + 1) = cntTo r k := by
  unfold cntTo
  rw [filter_take _ k h, if_neg (by rw [hp]; decide), List.append_nil]
/-- The counts, as far as they are reckoned. -/
def cAt (L : List Rw) (i : Nat) : List Nat := (List.range (L.length + 1)).map fun j => if j ≤ i then pre L j else 0
def cIn (L : List Rw) (i k : Nat) : List Nat := (List.range (L.length + 1)).map fun j => if j ≤ i then pre L j else if j = i + 1 then pre L i + cntTo (Ar L i) k else 0
theorem cAt_len (L : List Rw) (i : Nat) : (cAt L i).length = L.length + 1 := by simp [cAt]
theorem cIn_len (L : List Rw) (i k : Nat) : (cIn L i k).length = L.length + 1 := by simp [cIn]
theorem cAt_get (L : List Rw) (i j : Nat) (h : j ≤ L.length) : (cAt L i)[j]? = some (if j ≤ i then pre L j else 0) := by
  unfold cAt
  rw [List.getElem?_map, List.getElem?_range (by omega)]
  rfl
theorem cIn_get (L : List Rw) (i k j : Nat) (h : j ≤ L.length) : (cIn L i k)[j]? = some (if j ≤ i then pre L j else if j = i + 1 then pre L i + cntTo (Ar L i) k else 0) := by
  unfold cIn
  rw [List.getElem?_map, List.getElem?_range (by omega)]
  rfl
theorem cAt_start (L : List Rw) : cAt L 0 = List.replicate (L.length + 1) 0 := by
  apply List.ext_getElem?
  intro j
  by_cases h : j ≤ L.length
  · rw [cAt_get L 0 j h, List.getElem?_replicate, if_pos (show j < L.length + 1 by omega)]
    by_cases h0 : j ≤ 0
    · obtain rfl : j = 0 := by omega
      rfl
    · rw [if_neg h0]
  · rw [List.getElem?_eq_none (by rw [cAt_len]; omega), List.getElem?_eq_none (by simp; omega)]
theorem cAt_in (L : List Rw) (i : Nat) (h : i < L.length) : (cAt L i).set (i + 1) (pre L i) = cIn L i 0 := by
  apply List.ext_getElem?
  intro j
  rw [List.getElem?_set]
  by_cases hj : j ≤ L.length
  · rw [cIn_get L i 0 j hj, cAt_len, cAt_get L i j hj]
    by_cases h1 : i + 1 = j
    · rw [if_pos h1, if_pos (by omega), if_neg (by omega), if_pos h1.symm]
      simp [cntTo]
    · rw [if_neg h1]
      by_cases h2 : j ≤ i
      · rw [if_pos h2, if_pos h2]
      · rw [if_neg h2, if_neg h2, if_neg (fun e => h1 e.symm)]
  · rw [List.getElem?_eq_none (by rw [cAt_len]; omega), if_neg (by omega), List.getElem?_eq_none (by rw [cIn_len]; omega)]
theorem cIn_set (L : List Rw) (i k k' : Nat) (h : i < L.length) : (cIn L i k).set (i + 1) (pre L i + cntTo (Ar L i) k') = cIn L i k' := by
  apply List.ext_getElem?
  intro j
  rw [List.getElem?_set]
  by_cases hj : j ≤ L.length
  · rw [cIn_get L i k' j hj, cIn_len, cIn_get L i k j hj]
    by_cases h1 : i + 1 = j
    · rw [if_pos h1, if_pos (by omega), if_neg (by omega), if_pos h1.symm]
    · rw [if_neg h1]
      by_cases h2 : j ≤ i
      · rw [if_pos h2, if_pos h2]
      · rw [if_neg h2, if_neg h2, if_neg (fun e => h1 e.symm), if_neg (fun e => h1 e.symm)]
  · rw [List.getElem?_eq_none (by rw [cIn_len]; omega), if_neg (by omega), List.getElem?_eq_none (by rw [cIn_len]; omega)]
theorem cIn_end (L : List Rw) (i : Nat) (h : i < L.length) : cIn L i (Ar L i).c.length = cAt L (i + 1) := by
  apply List.ext_getElem?
  intro j
  by_cases hj : j ≤ L.length
  · rw [cIn_get L i _ j hj, cAt_get L (i + 1) j hj, cntTo_end]
    by_cases h2 : j ≤ i
    · rw [if_pos h2, if_pos (by omega)]
    · by_cases h1 : j = i + 1
      · rw [if_neg h2, if_pos h1, if_pos (by omega), h1, pre_succ L i h]
      · rw [if_neg h2, if_neg h1, if_neg (by omega)]
  · rw [List.getElem?_eq_none (by rw [cIn_len]; omega), List.getElem?_eq_none (by rw [cAt_len]; omega)]
theorem pre_flat : ∀ L : List Rw, pre L L.length = (flat L).length
  | [] => rfl
  | r :: t => by
    rw [List.length_cons, pre_cons, pre_flat t]
    simp [flat, cnt]
theorem pre_le (L : List Rw) (i : Nat) : pre L i ≤ (flat L).length := by
  rw [← pre_flat]
  rcases Nat.lt_or_ge i L.length with h | h
  · exact pre_mono L _ _ (by omega)
  · rw [pre_over L i h]; exact Nat.le_refl _
theorem mk_count (n : Nat) (hn : n ≤ 1000000000) (W : World) : (Instr.makeSlice 65 (.int .i64 n) (.int .i64 n)).run Try.prog W = .ok (.slice (some ⟨W.heap.size, 0, none⟩) n n) (W.alloc (.cells (madeCells #[.int .i64 0] n) 3)) := by
  obtain ⟨i0, hi, hz0, hz1, hz2⟩ := info_parts infoIntF
  have h := run_make (P := Try.prog) W 65 3 i0 _ Try.underlying65 hi hz0 .i64 .i64 n n (by omega) (Int.le_refl _) (by rw [hz2]; omega) (by omega)
  rw [Int.toNat_natCast, hz1, Nat.mul_one] at h
  exact h
theorem made_ints (n : Nat) : (madeCells #[.int .i64 0] n).toList = intsV (List.replicate n 0) := by
  have h := toList_madeCells_one (.int .i64 0) n
  rw [h]
  unfold intsV
  rw [List.map_replicate]
  rfl
/-- Counts that the call has made. -/
theorem own_count (w : World) (n : Nat) (hn : n ≤ 1000000000) : (w.alloc (.cells (madeCells #[.int .i64 0] n) 3)).ownsRow w.heap.size 3 1 (.slice (some ⟨w.heap.size, 0, none⟩) n n) n (intsV (List.replicate n 0)) := by
  rw [← made_ints]
  exact World.ownsRow_lit (e := 3) (size := 1) w (madeCells #[.int .i64 0] n) n (Nat.le_refl _) (by unfold maxLen; omega) (by rw [size_madeCells]; omega)
set_option maxRecDepth 100000 in
set_option maxHeartbeats 8000000 in
theorem countOf_any (A : Option Addr) (L : List Rw) (n c : Nat) (hn : n = L.length) (hl : n ≤ 100000000) (hr : ∀ i, i < n → (Ar L i).c.length ≤ 1000000000) (hf : (flat L).length ≤ 1000000000) (w : World) (h : RR w A L) :
    Calls Try.prog 37 #[.slice A n c] w fun e w' => ∃ g, e = .returned (.slice (some ⟨g, 0, none⟩) (n + 1) (n + 1)) ∧ w'.ownsRow w.heap.size 3 1 (.slice (some ⟨g, 0, none⟩) (n + 1) (n + 1)) (n + 1) (intsV (cAt L n)) ∧ Below w.heap.size w w' := by
  have HR := Lib.hid h
  have HN := Lib.hid hn
  have HF := Lib.hid hf
  have HL := Lib.hid hr
  have hmk := mk_count (n + 1) (by omega) w
  have hmk' : (Instr.makeSlice 65 (.int .i64 ((n : Int) + 1)) (.int .i64 ((n : Int) + 1))).run Try.prog w = .ok (.slice (some ⟨w.heap.size, 0, none⟩) (n + 1) (n + 1)) (w.alloc (.cells (madeCells #[.int .i64 0] (n + 1)) 3)) := hmk
  have HO0 : Hid ((w.alloc (.cells (madeCells #[.int .i64 0] (n + 1)) 3)).ownsRow w.heap.size 3 1 (.slice (some ⟨w.heap.size, 0, none⟩) (n + 1) (n + 1)) (n + 1) (intsV (cAt L 0))) := Lib.hid (by rw [cAt_start, ← hn]; exact own_count w (n + 1) (by omega))
  have HB0 := Lib.hid (belA (Below.refl w.heap.size w) (.cells (madeCells #[.int .i64 0] (n + 1)) 3))
  clear h hn hf hr
  go_enter Try.func37, Try.ntmps37
  go_wp2_with fail
  generalize w.alloc (.cells (madeCells #[.int .i64 0] (n + 1)) 3) = w0 at *
  clear hmk hmk'
  go_loopw [14] (fun q wr => ∃ (i : Nat), q = .int .i64 i ∧ i ≤ n ∧ Hid (wr.ownsRow w.heap.size 3 1 (.slice (some ⟨w.heap.size, 0, none⟩) (n + 1) (n + 1)) (n + 1) (intsV (cAt L i))) ∧ Hid (Below w.heap.size w wr)) (fun q _ => n - (intOf q).toNat)
  case atStart => exact ⟨0, rfl, Nat.zero_le _, HO0, HB0⟩
  case round =>
    obtain ⟨i, rfl, hi, HO, HB⟩ := hrel
    by_cases hlt : i < n
    · have hlti : (i : Int) < n := by omega
      obtain ⟨b, off, Ai, ci, rfl, _, hG⟩ := HR.out.at i (by have := HN.out; omega)
      obtain ⟨_, a0, a1, _⟩ := hG _ HB.out
      have hkl := HL.out i hlt
      have HRC : Hid (∀ W, Below w.heap.size w W → RC W W.heap.size Ai (Ar L i).c) := Lib.hid fun W hW => (hG W hW).2.2.2
      obtain ⟨nk, hnk⟩ : ∃ nk, (Ar L i).c.length = nk := ⟨_, rfl⟩
      have HNK := Lib.hid hnk
      rw [hnk] at a0 hkl
      generalize (Ar L i).k = kk at *
      clear hG hnk
      have HI1 : Hid (i < L.length) := Lib.hid (by have := HN.out; omega)
      have hci : wr.cell? ⟨w.heap.size, i, none⟩ = some (.int .i64 ((pre L i : Nat) : Int)) := by
        rw [HO.out.cellAt i (by omega)]
        unfold intsV
        rw [List.getElem?_map, cAt_get L i i (by have := HN.out; omega), if_pos (Nat.le_refl _)]
        rfl
      have hcj : wr.cell? ⟨w.heap.size, i + 1, none⟩ = some (.int .i64 0) := by
        rw [HO.out.cellAt (i + 1) (by omega)]
        unfold intsV
        rw [List.getElem?_map, cAt_get L i (i + 1) (by have := HN.out; omega), if_neg (by omega)]
        rfl
      have hfj : wr.frozen? ⟨w.heap.size, i + 1, none⟩ = false := HO.out.frozenAt _
      have hws : w.heap.size < wr.heap.size := (HO.out.lt _ rfl).2
      have HZ : Hid (((wr.setCell ⟨w.heap.size, i + 1, none⟩ (.int .i64 ((pre L i : Nat) : Int))).alloc (.cells #[.slice Ai nk ci, .bool kk] 31)).ownsRow w.heap.size 3 1 (.slice (some ⟨w.heap.size, 0, none⟩) (n + 1) (n + 1)) (n + 1) (intsV (cIn L i 0)) ∧ Below w.heap.size w ((wr.setCell ⟨w.heap.size, i + 1, none⟩ (.int .i64 ((pre L i : Nat) : Int))).alloc (.cells #[.slice Ai nk ci, .bool kk] 31))) := Lib.hid (by
        have hs := (HO.out.stored (i + 1) (.int .i64 ((pre L i : Nat) : Int))).1
        rw [intsV_set, cAt_in L i HI1.out] at hs
        exact ⟨own_pastK hs (belA (Below.refl _ _) _), belA (HB.out.setCell (p := ⟨w.heap.size, i + 1, none⟩) (Nat.le_refl _) _) _⟩)
      clear HO HB
      have hb1 : (i : Int) < (n : Int) + 1 := by omega
      have hb2 : (i : Int) + 1 < (n : Int) + 1 := by omega
      obtain ⟨p0, hp0⟩ : ∃ p0, pre L i = p0 := ⟨_, rfl⟩
      have HP0 := Lib.hid hp0
      rw [hp0] at hci HZ
      clear hp0
      go_wp2_with fail
      have HZ' := HZ
      clear HZ a0 a1 hci hcj hfj hws
      generalize ((wr.setCell ⟨w.heap.size, i + 1, none⟩ (.int .i64 (p0 : Int))).alloc (.cells #[.slice Ai nk ci, .bool kk] 31)) = wa at *
      go_loopw [30] (fun q wr => ∃ (k : Nat), q = .int .i64 k ∧ k ≤ nk ∧ Hid (wr.ownsRow w.heap.size 3 1 (.slice (some ⟨w.heap.size, 0, none⟩) (n + 1) (n + 1)) (n + 1) (intsV (cIn L i k))) ∧ Hid (Below w.heap.size w wr)) (fun q _ => nk - (intOf q).toNat)
      case atStart => exact ⟨0, rfl, Nat.zero_le _, Lib.hid HZ'.out.1, Lib.hid HZ'.out.2⟩
      case round =>
        obtain ⟨k, rfl, hk, HO, HB⟩ := hrel
        by_cases hklt : k < nk
        · have hkli : (k : Int) < nk := by omega
          obtain ⟨b2, off2, rfl, hG⟩ := (HRC.out _ HB.out).at (fun e => by have := HNK.out; rw [e] at this; simp at this; omega)
          obtain ⟨_, GA⟩ := hG _ (Below.refl _ _)
          obtain ⟨a0, a1, a2, a3, a4, a5, a6, a7⟩ := GA k (by have := HNK.out; omega)
          have HY := fun hp => Lib.hid (cntTo_yes (Ar L i) k (by have := HNK.out; omega) hp)
          have HNo := fun hp => Lib.hid (cntTo_no (Ar L i) k (by have := HNK.out; omega) hp)
          have hcb : p0 + cntTo (Ar L i) k ≤ 1000000000 := by
            have h1 := cntTo_le (Ar L i) k
            have h2 := pre_succ L i HI1.out
            have h3 := pre_le L (i + 1)
            have := HF.out
            have := HP0.out
            omega
          have hcj : ∀ W, Below wr.heap.size wr W → W.cell? ⟨w.heap.size, i + 1, none⟩ = some (.int .i64 ((p0 + cntTo (Ar L i) k : Nat) : Int)) ∧ W.frozen? ⟨w.heap.size, i + 1, none⟩ = false := fun W hW => by
            have ho := own_pastK HO.out hW
            refine ⟨?_, ho.frozenAt _⟩
            rw [ho.cellAt (i + 1) (by omega)]
            unfold intsV
            rw [List.getElem?_map, cIn_get L i k (i + 1) (by have := HN.out; omega), if_neg (by omega), if_pos rfl, HP0.out]
            rfl
          have HCJ := Lib.hid hcj
          have hws : w.heap.size < wr.heap.size := (HO.out.lt _ rfl).2
          clear hG GA hcj
          cases hp : notPad (Ac (Ar L i).c k) with
          | true =>
            have HY1 := HY hp
            have HT := fun W => Lib.hid (isPad_any (Ac (Ar L i).c k) false (by rw [hp]; rfl) W)
            have HX : Hid (∀ W, Below wr.heap.size wr W → (W.setCell ⟨w.heap.size, i + 1, none⟩ (.int .i64 ((p0 + cntTo (Ar L i) k : Nat) + 1 : Int))).ownsRow w.heap.size 3 1 (.slice (some ⟨w.heap.size, 0, none⟩) (n + 1) (n + 1)) (n + 1) (intsV (cIn L i (k + 1))) ∧ Below w.heap.size w (W.setCell ⟨w.heap.size, i + 1, none⟩ (.int .i64 ((p0 + cntTo (Ar L i) k : Nat) + 1 : Int)))) := Lib.hid fun W hW => by
              have hs := ((own_pastK HO.out hW).stored (i + 1) (.int .i64 ((p0 + cntTo (Ar L i) k + 1 : Nat) : Int))).1
              rw [intsV_set, Nat.add_assoc, ← HY1.out, ← HP0.out, cIn_set L i k (k + 1) HI1.out, HP0.out, HY1.out] at hs
              exact ⟨hs, (bel0 HB.out hW).setCell (p := ⟨w.heap.size, i + 1, none⟩) (Nat.le_refl _) _⟩
            clear HY HNo HY1 hp HO HB
            generalize p0 + cntTo (Ar L i) k = q at *
            generalize Ac (Ar L i).c k = x at *
            go_wp2_with (go_at_call 31; (with_reducible refine ((HT _).out).mono ?_); rintro e w1 ⟨rfl, hb⟩; obtain ⟨hcw, hfw⟩ := HCJ.out _ (bel1 (Below.refl _ _) hb); have HX1 := Lib.hid (HX.out _ (bel1 (Below.refl _ _) hb)); clear hb)
            go_roundw
            case rel => exact ⟨k + 1, by go_num, hklt, Lib.hid HX1.out.1, Lib.hid HX1.out.2⟩
            case measure => simp [intOf]; omega
          | false =>
            have HN1 := HNo hp
            have HT := fun W => Lib.hid (isPad_any (Ac (Ar L i).c k) true (by rw [hp]; rfl) W)
            have HX : Hid (∀ W, Below wr.heap.size wr W → W.ownsRow w.heap.size 3 1 (.slice (some ⟨w.heap.size, 0, none⟩) (n + 1) (n + 1)) (n + 1) (intsV (cIn L i (k + 1))) ∧ Below w.heap.size w W) := Lib.hid fun W hW => by
              have e : cIn L i (k + 1) = cIn L i k := by unfold cIn; rw [HN1.out]
              rw [e]
              exact ⟨own_pastK HO.out hW, bel0 HB.out hW⟩
            clear HY HNo HN1 hp HO HB HCJ
            generalize Ac (Ar L i).c k = x at *
            go_wp2_with (go_at_call 31; (with_reducible refine ((HT _).out).mono ?_); rintro e w1 ⟨rfl, hb⟩; have HX1 := Lib.hid (HX.out _ (bel1 (Below.refl _ _) hb)); clear hb)
            go_roundw
            case rel => exact ⟨k + 1, by go_num, hklt, Lib.hid HX1.out.1, Lib.hid HX1.out.2⟩
            case measure => simp [intOf]; omega
        · obtain rfl : k = nk := by omega
          have HE : Hid (wr.ownsRow w.heap.size 3 1 (.slice (some ⟨w.heap.size, 0, none⟩) (n + 1) (n + 1)) (n + 1) (intsV (cAt L (i + 1)))) := Lib.hid (by
            rw [← cIn_end L i HI1.out, HNK.out]
            exact HO.out)
          clear HO
          go_wp2
          go_roundw
          case rel => exact ⟨i + 1, by go_num, hlt, HE, HB⟩
          case measure => simp [intOf]; omega
    · obtain rfl : i = n := by omega
      go_wp2
      go_ret
      exact ⟨_, rfl, HO.out, HB.out⟩
end Go.Proofs.Ytfjgfmeanehpmaa
