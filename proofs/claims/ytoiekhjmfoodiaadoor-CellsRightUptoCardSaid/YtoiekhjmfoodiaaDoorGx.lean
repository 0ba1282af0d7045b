/- The walk of Text. -/
import Derived.Test.YtoiekhjmfoodiaaDoorGw
import Derived.Test.YtoiekhjmfoodiaaDoorGj
namespace Go.Proofs.YtoiekhjmfoodiaaDoor
open Go.RowKit

/-- The text of the first k cells. -/
def txtTo (l : List CC) : Nat → List UInt8
  | 0 => []
  | k + 1 => txtTo l k ++ (textC (Ac l k)).data.toList
/-- No cell has many marks. -/
def fewMarks (l : List CC) : Prop := ∀ k, k < l.length → (put7 (Ac l k).r).size + (Ac l k).m.size ≤ 1200000
theorem textC_size (x : CC) (h : (put7 x.r).size + x.m.size ≤ 1200000) : (textC x).size ≤ 1200000 := by
  unfold textC
  split
  · decide
  · split
    · decide
    · rw [ByteArray.size_append]; exact h
theorem txtTo_len (l : List CC) (h : fewMarks l) : ∀ k, k ≤ l.length → (txtTo l k).length ≤ 1200000 * k
  | 0, _ => Nat.zero_le _
  | k + 1, hk => by
    have h1 := txtTo_len l h k (by omega)
    have h2 := textC_size _ (h k (by omega))
    have h3 : (textC (Ac l k)).data.toList.length = (textC (Ac l k)).size := by rw [Array.length_toList]; rfl
    show (txtTo l k ++ (textC (Ac l k)).data.toList).length ≤ _
    rw [List.length_append, h3]
    omega
theorem IsB.past {B b : Nat} {bs : List Value} {w w' : World} (h : Lib.IsBuilder 56 5 B b bs w) (hb : Below w.heap.size w w') : Lib.IsBuilder 56 5 B b bs w' := by
  have k : ∀ p, Lib.BuilderAt 56 5 B b p bs w → Lib.BuilderAt 56 5 B b p bs w' := fun p ⟨h1, v, h2, h3, h4⟩ => ⟨h1, v, (hb.block b (Array.getElem?_eq_some_iff.1 h2).1).trans h2, own_past' h3 hb, h4⟩
  rcases h with h | h
  · exact .inl (k _ h)
  · exact .inr (k _ h)
set_option maxRecDepth 100000 in
set_option maxHeartbeats 4000000 in
theorem textRow_any (A : Option Addr) (l : List CC) (n c : Nat) (hn : n = l.length) (h0 : 0 < n) (hl : n ≤ 1000) (hc : n ≤ c) (hm : fewMarks l) (w : World) (h : RC w w.heap.size A l) :
    Calls Tryd.prog 16 #[.slice A n c] w fun e w' => e = .returned (.string ⟨(txtTo l (usedL l)).toArray⟩) ∧ Below w.heap.size w w' := by
  have HR := Lib.hid h
  have HN := Lib.hid hn
  have HM := Lib.hid hm
  have hub : usedL l ≤ n := by rw [hn]; exact usedTo_le l _
  have HUB := Lib.hid hub
  have hbw : Below w.heap.size w (w.alloc (.cells #[.pointer none, .slice none 0 0] 56)) := belA (Below.refl _ _) _
  have HU : Hid (Calls Tryd.prog 14 #[.slice A n c] (w.alloc (.cells #[.pointer none, .slice none 0 0] 56)) fun e w' => e = .returned (.int .i64 (usedL l)) ∧ Below w.heap.size w w' ∧ Lib.IsBuilder 56 5 w.heap.size w.heap.size (Lib.byteCells []) w') := Lib.hid <| (used_any A l n c hn (by omega) _ (h.past hbw)).mono fun e w' ⟨he, hb⟩ => ⟨he, bel0 hbw hb, IsB.past (Lib.fresh_isBuilder _ _ w) hb⟩
  obtain ⟨b, off, hA, hG⟩ := h.at (fun e => by rw [e] at hn; simp at hn; omega)
  have HG := Lib.hid hG
  have huc : (usedL l : Int) ≤ c := by omega
  have huc' : usedL l ≤ c := by omega
  have HT : Hid (∀ k, k < n → ∀ W, Calls Tryd.prog 32 #[.agg #[.int .i32 (Ac l k).r, .string (Ac l k).m, .int .i64 (Ac l k).h, .int .i64 (Ac l k).fk, .int .i64 (Ac l k).fn, .int .i64 (Ac l k).bk, .int .i64 (Ac l k).bn, .int .i64 (Ac l k).fl]] W fun e w' => e = .returned (.string (textC (Ac l k))) ∧ Below W.heap.size W w') := Lib.hid fun k hk W => text_any (Ac l k) (by have := hm k (by omega); omega) W
  have HWS : Hid (∀ k, k < n → ∀ W, w.heap.size ≤ W.heap.size → Lib.IsBuilder 56 5 w.heap.size w.heap.size (Lib.byteCells (txtTo l k)) W → Calls Tryd.prog 31 #[.pointer (some ⟨w.heap.size, 0, none⟩), .string (textC (Ac l k))] W fun e w' => e = .returned (.tuple #[.int .i64 (textC (Ac l k)).size, .nilIface]) ∧ Lib.IsBuilder 56 5 w.heap.size w.heap.size (Lib.byteCells (txtTo l (k + 1))) w' ∧ Below w.heap.size W w') := Lib.hid fun k hk W hW hB => by
    have h1 := txtTo_len l hm k (by omega)
    have h2 := textC_size _ (hm k (by omega))
    refine (writeString_any w.heap.size w.heap.size _ (textC (Ac l k)) W hB (by rw [Lib.byteCells_length]; omega) hW).mono fun e w' ⟨he, hb, hw⟩ => ⟨he, .inr ?_, hw⟩
    have e : Lib.byteCells (txtTo l (k + 1)) = Lib.byteCells (txtTo l k) ++ Lib.strCells (textC (Ac l k)) := by
      show Lib.byteCells (txtTo l k ++ _) = _
      rw [Lib.strCells_eq]; simp [Lib.byteCells]
    rw [e]; exact hb
  subst hA
  clear h hn hm hG hub hbw hc
  generalize usedL l = u at *
  go_enter Tryd.func16, Tryd.ntmps16
  go_wp2_with (go_at_call 14; (with_reducible refine (HU.out).mono ?_); rintro e w1 ⟨rfl, hb, hB⟩; have HB1 := Lib.hid hb; have HK1 := Lib.hid hB; clear hb hB)
  go_loopw [11] (fun q wr => ∃ k : Nat, q = .int .i64 k ∧ k ≤ u ∧ Hid (Lib.IsBuilder 56 5 w.heap.size w.heap.size (Lib.byteCells (txtTo l k)) wr) ∧ Hid (Below w.heap.size w wr)) (fun q _ => u - (intOf q).toNat)
  case atStart => exact ⟨0, rfl, Nat.zero_le _, HK1, HB1⟩
  case round =>
    obtain ⟨k, rfl, hk, HK, HB⟩ := hrel
    by_cases hlt : k < u
    · have hki : (k : Int) < u := by omega
      have hkn : k < n := Nat.lt_of_lt_of_le hlt HUB.out
      obtain ⟨G0, GA⟩ := HG.out _ HB.out
      obtain ⟨a0, a1, a2, a3, a4, a5, a6, a7⟩ := GA k (by have := HN.out; omega)
      have HTk := Lib.hid (HT.out k hkn)
      have HWk := Lib.hid (HWS.out k hkn)
      have HKn : Hid (∀ W, Below wr.heap.size wr W → Lib.IsBuilder 56 5 w.heap.size w.heap.size (Lib.byteCells (txtTo l k)) W ∧ Below w.heap.size w W) := Lib.hid fun W hW => ⟨IsB.past HK.out hW, bel0 HB.out hW⟩
      clear GA
      generalize Ac l k = x at *
      generalize textC x = tx at *
      have HBA := Lib.hid (belA (Below.refl wr.heap.size wr) (.cells #[.int .i32 x.r, .string x.m, .int .i64 x.h, .int .i64 x.fk, .int .i64 x.fn, .int .i64 x.bk, .int .i64 x.bn, .int .i64 x.fl] 44))
      go_wp2_with (first
        | (go_at_call 32; (with_reducible refine (HTk.out _).mono ?_); rintro e w2 ⟨rfl, hb2⟩; have HP2 := HKn.out _ (bel0 HBA.out hb2); have HQ2 := Lib.hid HP2.1; have HB2 := Lib.hid HP2.2; clear HP2 hb2)
        | (go_at_call 31; (with_reducible refine (HWk.out _ HB2.out.size HQ2.out).mono ?_); rintro e w3 ⟨rfl, hB3, hb3⟩; have HQ3 := Lib.hid hB3; have HB3 := Lib.hid (HB2.out.trans hb3); clear hB3 hb3))
      go_roundw
      case rel => exact ⟨k + 1, by go_num, hlt, HQ3, HB3⟩
      case measure => simp [intOf]; omega
    · have hki : ¬ (k : Int) < u := by omega
      have e : k = u := by omega
      have HQ : Hid (Calls Tryd.prog 33 #[.pointer (some ⟨w.heap.size, 0, none⟩)] wr fun e w' => e = .returned (.string ⟨(txtTo l u).toArray⟩) ∧ Below w.heap.size wr w') := Lib.hid (by
        have hq := HK.out
        rw [e] at hq
        exact Tryd.Builder_String_any w.heap.size w.heap.size _ wr hq HB.out.size)
      clear e
      go_wp2_with (go_at_call 33; (with_reducible refine (HQ.out).mono ?_); rintro e w2 ⟨rfl, hb2⟩; have HB2 := Lib.hid (HB.out.trans hb2); clear hb2)
      go_ret
      exact ⟨rfl, HB2.out⟩
end Go.Proofs.YtoiekhjmfoodiaaDoor
