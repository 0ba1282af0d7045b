/- The walks of areMarks, isWrong of any cell, Right of any row. -/
import Derived.Test.YtoiekhjmfoodiaaDoorHc
import Derived.Test.YtoiekhjmfoodiaaDoorHb
import Derived.Test.YtoiekhjmfoodiaaDoorGv
import Derived.Test.YtoiekhjmfoodiaaDoorGn
import Derived.Lib.ConvBytes
namespace Go.Proofs.YtoiekhjmfoodiaaDoor
open Go.RowKit

theorem strL_at' (zs : List Nat) (hz : ∀ z ∈ zs, z < 256) (k : Nat) (hk : k < zs.length) : ((strL zs).data.toList.getD k 0).toNat = zs[k]?.getD 0 := by
  have h : zs[k] < 256 := hz _ (List.getElem_mem hk)
  simp [strL, hk, UInt8.toNat_ofNat']
  omega
theorem strL_size' (zs : List Nat) : (strL zs).size = zs.length := by simp [strL, ByteArray.size]
/-- '[]byte(s)': a row of the call's own. -/
theorem conv_bytes' (zs : List Nat) (hz : ∀ z ∈ zs, z < 256) (hl : zs.length ≤ 2000000) (W : World) :
    ∃ (c : Nat) (W' : World), (Go.convert 9 54 (.string (strL zs))).run Tryd.prog W = .ok (.slice (some ⟨W.heap.size, 0, none⟩) zs.length c) W' ∧ zs.length ≤ c ∧ c ≤ 9223372036854775807 ∧ BS W' W'.heap.size (some ⟨W.heap.size, 0, none⟩) zs ∧ Below W.heap.size W W' := by
  have hr := Lib.run_convert_string_bytes (P := Tryd.prog) W 9 54 5 (strL zs) Tryd.underlying9 Tryd.underlying54 Tryd.underlying5
  have hg := grownCap_ge W (strL zs).size 0 5
  have hm := grownCap_le_maxLen W (strL zs).size 0 5 (by rw [strL_size']; unfold maxLen; omega)
  have hsz := Lib.bytesWorld_size W 5 (strL zs)
  rw [strL_size'] at hr hg hm
  refine ⟨_, _, hr, hg, hm, ⟨hz, fun _ => ⟨_, 0, rfl, by omega, fun k hk => ?_⟩⟩, ⟨rfl, rfl, rfl, by omega, fun i hi => Lib.bytesWorld_at_old W 5 (strL zs) i hi⟩⟩
  rw [Nat.zero_add, Lib.bytesWorld_cell W 5 (strL zs) k (by rw [strL_size']; exact hk), strL_at' zs hz k hk]
/-- The bytes of a text. -/
def bytesL (m : ByteArray) : List Nat := m.data.toList.map UInt8.toNat
theorem bytesL_lt (m : ByteArray) : ∀ z ∈ bytesL m, z < 256 := fun z hz => by
  obtain ⟨b, _, rfl⟩ := List.mem_map.1 hz
  exact b.toNat_lt
theorem strL_bytesL (m : ByteArray) : strL (bytesL m) = m := by
  apply ByteArray.ext
  apply Array.toList_inj.1
  show ((m.data.toList.map UInt8.toNat).map UInt8.ofNat).toArray.toList = m.data.toList
  show (m.data.toList.map UInt8.toNat).map UInt8.ofNat = m.data.toList
  rw [List.map_map]
  exact (List.map_congr_left fun b _ => (by simp : UInt8.ofNat b.toNat = b)).trans (List.map_id _)
theorem bytesL_len (m : ByteArray) : (bytesL m).length = m.size := by
  unfold bytesL
  rw [List.length_map, Array.length_toList]
  rfl
/-- A slice reads as runes. -/
def RN (w : World) (A : Option Addr) (l : List Nat) : Prop :=
  l ≠ [] → ∃ b off, A = some ⟨b, off, none⟩ ∧ b < w.heap.size ∧ ∀ k, k < l.length → w.cell? ⟨b, off + k, none⟩ = some (.int .i32 ((l[k]?.getD 0 : Nat) : Int))
theorem RN.past {w w' : World} {A : Option Addr} {l : List Nat} (h : RN w A l) (hb : Below w.heap.size w w') : RN w' A l := fun hne => by
  obtain ⟨b, off, e, hl, hc⟩ := h hne
  exact ⟨b, off, e, Nat.lt_of_lt_of_le hl hb.size, fun k hk => (hb.cell (p := ⟨b, off + k, none⟩) hl).trans (hc k hk)⟩
theorem RN.of_own {w : World} {B n : Nat} {v : Value} {l : List Nat} (h : w.ownsRow B 21 1 v n (l.map encN)) (hn : n = l.length) : ∃ A c, v = .slice A l.length c ∧ RN w A l := by
  subst hn
  obtain ⟨A, c, e⟩ := own_form8 h
  subst e
  refine ⟨A, c, rfl, fun hne => ?_⟩
  rcases h.2 with ⟨_, h0⟩ | ⟨g, cap, cur, e, hb, hh, _⟩
  · exact absurd (List.eq_nil_of_length_eq_zero h0) hne
  · injection e with e1 _ _
    subst e1
    refine ⟨g, 0, rfl, (Array.getElem?_eq_some_iff.1 hh).1, fun k hk => ?_⟩
    rw [Nat.zero_add, h.cellAt k (by omega), List.getElem?_map, List.getElem?_eq_getElem hk]
    rfl
def notMark (r : Nat) : Bool := decide (ofZ (r : Int) ≠ 0)
set_option maxRecDepth 100000 in
set_option maxHeartbeats 4000000 in
theorem isNone_any (r : Nat) (w : World) (hT : WT w) : Calls Tryd.prog 72 #[.int .i32 (r : Nat)] w fun e w' => e = .returned (.bool (notMark r)) ∧ Below w.heap.size w w' := by
  have HW := Lib.hid (widthOf_any (r : Int) w hT)
  have e : notMark r = (ofZ (r : Int) != 0) := by
    unfold notMark
    by_cases h : ofZ (r : Int) = 0
    · rw [h]; decide
    · have : (ofZ (r : Int) == 0) = false := by simpa using h
      rw [bne, this, decide_eq_true h]
      rfl
  rw [e]
  clear e hT
  generalize ofZ (r : Int) = z at *
  go_enter Tryd.func72, Tryd.ntmps72
  go_wp2_with (go_at_call 47; (with_reducible refine (HW.out).mono ?_); rintro e w1 ⟨rfl, hb⟩; have HB := Lib.hid hb; clear hb)
  go_ret
  exact ⟨rfl, HB.out⟩
set_option maxRecDepth 100000 in
set_option maxHeartbeats 4000000 in
theorem indexRune_any (A : Option Addr) (l : List Nat) (n c : Nat) (hn : n = l.length) (hl : n ≤ 1000000) (w : World) (hT : WT w) (h : RN w A l) :
    Calls Tryd.prog 77 #[.slice A n c, .func (.func 72) #[] #[]] w fun e w' => ∃ z : Int, e = .returned (.int .i64 z) ∧ Below w.heap.size w w' ∧ ((∃ k : Nat, z = k ∧ l.any notMark = true) ∨ (z = -1 ∧ l.any notMark = false)) := by
  have HR := Lib.hid h
  have HN := Lib.hid hn
  have HP : Hid (∀ k W, Below w.heap.size w W → Calls Tryd.prog 72 #[.int .i32 (k : Nat)] W fun e w' => e = .returned (.bool (notMark k)) ∧ Below W.heap.size W w') := Lib.hid fun k W hW => isNone_any k W (hT.below hW)
  clear h hn hT
  go_enter Tryd.func77, Tryd.ntmps77
  go_wp2
  go_loopw [8] (fun q wr => ∃ k : Nat, q = .int .i64 k ∧ k ≤ n ∧ Hid (∀ j, j < k → notMark (l[j]?.getD 0) = false) ∧ Hid (Below w.heap.size w wr)) (fun q _ => n - (intOf q).toNat)
  case atStart => exact ⟨0, rfl, Nat.zero_le _, Lib.hid (fun j hj => by omega), Lib.hid (Below.refl _ _)⟩
  case round =>
    obtain ⟨k, rfl, hk, HK, HB⟩ := hrel
    by_cases hlt : k < n
    · have hki : (k : Int) < n := by omega
      obtain ⟨b, off, rfl, hbl, hc⟩ := HR.out (fun e => by have := HN.out; rw [e] at this; simp at this; omega)
      have c0 := (HB.out.cell (p := ⟨b, off + k, none⟩) hbl).trans (hc k (by have := HN.out; omega))
      have HT := Lib.hid (HP.out (l[k]?.getD 0) wr HB.out)
      clear hc
      cases hq : notMark (l[k]?.getD 0) with
      | true =>
        rw [hq] at HT
        have HS : Hid (l.any notMark = true) := Lib.hid (by
          have hkl : k < l.length := by have := HN.out; omega
          rw [List.getElem?_eq_getElem hkl] at hq
          exact List.any_eq_true.2 ⟨_, List.getElem_mem hkl, hq⟩)
        clear hq HK HP
        generalize l[k]?.getD 0 = x at *
        go_wp2_with (go_at_call 72; (with_reducible refine (HT.out).mono ?_); rintro e w1 ⟨rfl, hb⟩; have HB1 := Lib.hid (bel0 HB.out hb); clear hb)
        go_ret
        exact ⟨_, rfl, HB1.out, .inl ⟨k, rfl, HS.out⟩⟩
      | false =>
        rw [hq] at HT
        have HKN : Hid (∀ j, j < k + 1 → notMark (l[j]?.getD 0) = false) := Lib.hid fun j hj => by
          rcases (by omega : j < k ∨ j = k) with h | rfl
          · exact HK.out j h
          · exact hq
        clear hq HK
        generalize l[k]?.getD 0 = x at *
        go_wp2_with (go_at_call 72; (with_reducible refine (HT.out).mono ?_); rintro e w1 ⟨rfl, hb⟩; have HB1 := Lib.hid (bel0 HB.out hb); clear hb)
        go_roundw
        case rel => exact ⟨k + 1, by go_num, hlt, HKN, HB1⟩
        case measure => simp [intOf]; omega
    · obtain rfl : k = n := by omega
      have HS : Hid (l.any notMark = false) := Lib.hid (List.any_eq_false.2 fun x hx => by
        obtain ⟨j, hj, e⟩ := List.getElem_of_mem hx
        have h1 := HK.out j (by have := HN.out; omega)
        rw [List.getElem?_eq_getElem hj] at h1
        rw [← e]
        simpa using h1)
      clear HK HP
      go_wp2
      go_ret
      exact ⟨_, rfl, HB.out, .inr ⟨rfl, HS.out⟩⟩
set_option maxRecDepth 100000 in
set_option maxHeartbeats 4000000 in
theorem containsRune_any (A : Option Addr) (l : List Nat) (n c : Nat) (hn : n = l.length) (hl : n ≤ 1000000) (w : World) (hT : WT w) (h : RN w A l) :
    Calls Tryd.prog 73 #[.slice A n c, .func (.func 72) #[] #[]] w fun e w' => e = .returned (.bool (l.any notMark)) ∧ Below w.heap.size w w' := by
  have HI := Lib.hid (indexRune_any A l n c hn hl w hT h)
  clear h hn hT hl
  go_enter Tryd.func73, Tryd.ntmps73
  go_wp2_with (go_at_call 77; (with_reducible refine (HI.out).mono ?_); rintro e w1 ⟨z, rfl, hb, hz⟩; have HB := Lib.hid hb; have HZ := Lib.hid hz; clear hb hz)
  go_ret
  refine ⟨?_, HB.out⟩
  rcases HZ.out with ⟨k, rfl, hq⟩ | ⟨rfl, hq⟩
  · rw [hq, decide_eq_true (by omega)]
    rfl
  · rw [hq]
    rfl
/-- Are bytes marks? -/
def marksB (m : ByteArray) : Bool := decide (m.size ≤ 32) && !(allL (bytesL m)).any notMark
theorem allL_len (zs : List Nat) : (allL zs).length ≤ zs.length + 1 := by
  have h := rdL_len zs
  unfold allL
  rw [List.length_append, List.length_map]
  split <;> simp <;> omega
set_option maxRecDepth 100000 in
set_option maxHeartbeats 4000000 in
theorem areMarks_any (m : ByteArray) (w : World) (hT : WT w) (h4 : max 2 3 + 1 ≤ w.heap.size) (hU : UT w) :
    Calls Tryd.prog 53 #[.string m] w fun e w' => e = .returned (.bool (marksB m)) ∧ Below w.heap.size w w' := by
  unfold marksB
  by_cases hs : m.size ≤ 32
  · rw [decide_eq_true hs, Bool.true_and]
    obtain ⟨c, W, hcv, h1, h2, h3, hb⟩ := conv_bytes' (bytesL m) (bytesL_lt m) (by rw [bytesL_len]; omega) w
    rw [strL_bytesL] at hcv
    have hd : decide ((m.size : Int) ≤ 32) = true := decide_eq_true (by omega)
    have hd' : decide (m.size ≤ 32) = true := decide_eq_true hs
    have HL : Hid ((allL (bytesL m)).length ≤ 1000) := Lib.hid (by have := allL_len (bytesL m); rw [bytesL_len] at this; omega)
    have HA : Hid (Calls Tryd.prog 74 #[.slice (some ⟨w.heap.size, 0, none⟩) (bytesL m).length c] W fun e w' => (∃ A k c, e = .returned (.slice A k c) ∧ k = (allL (bytesL m)).length ∧ RN w' A (allL (bytesL m))) ∧ Below w.heap.size w w') := Lib.hid ((all_any _ (bytesL m) _ c rfl (by rw [bytesL_len]; omega) h1 h2 W (Nat.le_trans h4 hb.size) (hU.below hb) h3).mono fun e w' ⟨v, he, ho, hb'⟩ => by
      obtain ⟨A, c, hv, hr⟩ := RN.of_own ho rfl
      exact ⟨⟨A, _, c, by rw [he, hv], rfl, hr⟩, bel0 hb hb'⟩)
    have HC : Hid (∀ W A k c, Below w.heap.size w W → k = (allL (bytesL m)).length → RN W A (allL (bytesL m)) → Calls Tryd.prog 73 #[.slice A k c, .func (.func 72) #[] #[]] W fun e w' => e = .returned (.bool ((allL (bytesL m)).any notMark)) ∧ Below W.heap.size W w') := Lib.hid fun W A k c hW hk hr => containsRune_any A _ k c hk (by have := HL.out; omega) W (hT.below hW) hr
    clear h1 h2 h3 hb hT h4 hU HL hs
    generalize (allL (bytesL m)).any notMark = q at *
    generalize allL (bytesL m) = al at *
    generalize (bytesL m).length = bl at *
    go_enter Tryd.func53, Tryd.ntmps53
    go_wp2_with (first
      | (go_at_call 74; (with_reducible refine (HA.out).mono ?_); rintro e w1 ⟨⟨A1, k1, c1, rfl, hk1, hr1⟩, hb1⟩; have HK1 := Lib.hid hk1; have HR1 := Lib.hid hr1; have HB1 := Lib.hid hb1; clear hk1 hr1 hb1)
      | (go_at_call 73; (with_reducible refine (HC.out _ _ _ _ HB1.out HK1.out HR1.out).mono ?_); rintro e w2 ⟨rfl, hb2⟩; have HB2 := Lib.hid (bel0 HB1.out hb2); clear hb2))
    go_ret
    exact ⟨rfl, HB2.out⟩
  · rw [decide_eq_false hs, Bool.false_and]
    have hd : decide ((m.size : Int) ≤ 32) = false := decide_eq_false (by omega)
    have hd' : decide (m.size ≤ 32) = false := decide_eq_false hs
    clear hs hT h4 hU
    go_enter Tryd.func53, Tryd.ntmps53
    go_wp2
    go_ret
    exact ⟨rfl, Below.refl _ _⟩
/-- Has no right row such a cell? -/
def wrongB (y : CC) : Bool :=
  if y.r = 0 then !(y.m.toList == []) || (y.h != 0 && y.h != 3)
  else if y.h = 3 then true
  else if y.h = 0 then ofZ y.r != 1 || !marksB y.m
  else ofZ y.r != 2 || !marksB y.m
set_option maxRecDepth 100000 in
set_option maxHeartbeats 4000000 in
theorem isWrong_r (x : CC) (hr : x.r = 0) (w : World) : Calls Tryd.prog 26 #[.agg #[.int .i32 x.r, .string x.m, .int .i64 x.h, .int .i64 x.fk, .int .i64 x.fn, .int .i64 x.bk, .int .i64 x.bn, .int .i64 x.fl]] w fun e w' => e = .returned (.bool (wrongB x)) ∧ Below w.heap.size w w' := by
  rw [show wrongB x = (!(x.m.toList == []) || (x.h != 0 && x.h != 3)) by unfold wrongB; rw [if_pos hr], hr]
  clear hr
  cases hm : x.m.toList == [] with
  | false =>
    have hm' : (!x.m.toList == []) = true := by rw [hm]; rfl
    have hm2 : x.m.toList.isEmpty = false := by cases h : x.m.toList <;> simp_all
    have hm3 : (!x.m.toList.isEmpty) = true := by rw [hm2]; rfl
    go_enter Tryd.func26, Tryd.ntmps26
    go_wp2
    go_ret
    exact ⟨rfl, belA (Below.refl _ _) _⟩
  | true =>
    have hm' : (!x.m.toList == []) = false := by rw [hm]; rfl
    have hm2 : x.m.toList.isEmpty = true := by cases h : x.m.toList <;> simp_all
    have hm3 : (!x.m.toList.isEmpty) = false := by rw [hm2]; rfl
    by_cases h0 : x.h = 0
    · rw [h0]
      go_enter Tryd.func26, Tryd.ntmps26
      go_wp2
      go_ret
      exact ⟨rfl, belA (Below.refl _ _) _⟩
    · have k0 : (x.h == 0) = false := by simpa using h0
      have k0' : (x.h != 0) = true := by rw [bne, k0]; rfl
      by_cases h3 : x.h = 3
      · rw [h3]
        clear k0 k0' h0
        go_enter Tryd.func26, Tryd.ntmps26
        go_wp2
        go_ret
        exact ⟨rfl, belA (Below.refl _ _) _⟩
      · have k3 : (x.h == 3) = false := by simpa using h3
        have k3' : (x.h != 3) = true := by rw [bne, k3]; rfl
        rw [k0', k3']
        clear h0 h3
        go_enter Tryd.func26, Tryd.ntmps26
        go_wp2
        go_ret
        exact ⟨rfl, belA (Below.refl _ _) _⟩
set_option maxRecDepth 100000 in
set_option maxHeartbeats 4000000 in
theorem isWrong_m (x : CC) (hr : (x.r == 0) = false) (w : World) (hT : WT w) (h4 : max 2 3 + 1 ≤ w.heap.size) (hU : UT w) : Calls Tryd.prog 26 #[.agg #[.int .i32 x.r, .string x.m, .int .i64 x.h, .int .i64 x.fk, .int .i64 x.fn, .int .i64 x.bk, .int .i64 x.bn, .int .i64 x.fl]] w fun e w' => e = .returned (.bool (wrongB x)) ∧ Below w.heap.size w w' := by
  have hr' : x.r ≠ 0 := by simpa using hr
  by_cases h3 : x.h = 3
  · rw [show wrongB x = true by unfold wrongB; rw [if_neg hr', if_pos h3], h3]
    clear h3 hr' hT h4 hU
    go_enter Tryd.func26, Tryd.ntmps26
    go_wp2
    go_ret
    exact ⟨rfl, belA (Below.refl _ _) _⟩
  · have k3 : (x.h == 3) = false := by simpa using h3
    have HB0 := Lib.hid (belA (Below.refl w.heap.size w) (.cells #[.int .i32 x.r, .string x.m, .int .i64 x.h, .int .i64 x.fk, .int .i64 x.fn, .int .i64 x.bk, .int .i64 x.bn, .int .i64 x.fl] 44))
    have HXB := Lib.hid (heap_alloc_new w (.cells #[.int .i32 x.r, .string x.m, .int .i64 x.h, .int .i64 x.fk, .int .i64 x.fn, .int .i64 x.bk, .int .i64 x.bn, .int .i64 x.fl] 44))
    have HXL : Hid (w.heap.size < (w.alloc (.cells #[.int .i32 x.r, .string x.m, .int .i64 x.h, .int .i64 x.fk, .int .i64 x.fn, .int .i64 x.bk, .int .i64 x.bn, .int .i64 x.fl] 44)).heap.size) := Lib.hid (by simp)
    have HW := Lib.hid (widthOf_any x.r (w.alloc (.cells #[.int .i32 x.r, .string x.m, .int .i64 x.h, .int .i64 x.fk, .int .i64 x.fn, .int .i64 x.bk, .int .i64 x.bn, .int .i64 x.fl] 44)) (hT.below HB0.out))
    have HM : Hid (∀ W, Below w.heap.size w W → Calls Tryd.prog 53 #[.string x.m] W fun e w' => e = .returned (.bool (marksB x.m)) ∧ Below W.heap.size W w') := Lib.hid fun W hW => areMarks_any x.m W (hT.below hW) (Nat.le_trans h4 hW.size) (hU.below hW)
    clear hT h4 hU
    by_cases h0 : x.h = 0
    · rw [show wrongB x = (ofZ x.r != 1 || !marksB x.m) by unfold wrongB; rw [if_neg hr', if_neg h3, if_pos h0]]
      rw [h0] at HB0 HXB HW HXL ⊢
      clear h0 h3 k3 hr'
      cases hz : (ofZ x.r == 1) with
      | false =>
        have hz' : (ofZ x.r != 1) = true := by rw [bne, hz]; rfl
        rw [hz']
        generalize ofZ x.r = z at *
        clear HM
        go_enter Tryd.func26, Tryd.ntmps26
        go_wp2_with (go_at_call 47; (with_reducible refine (HW.out).mono ?_); rintro e w1 ⟨rfl, hb⟩; have HB := Lib.hid (bel0 HB0.out hb); clear hb)
        go_ret
        exact ⟨rfl, HB.out⟩
      | true =>
        have hz' : (ofZ x.r != 1) = false := by rw [bne, hz]; rfl
        rw [hz', Bool.false_or]
        generalize ofZ x.r = z at *
        generalize marksB x.m = q at *
        go_enter Tryd.func26, Tryd.ntmps26
        go_wp2_with (first
          | (go_at_call 47; (with_reducible refine (HW.out).mono ?_); rintro e w1 ⟨rfl, hb⟩; have x1 := cell_of_row _ _ 1 _ _ _ ((hb.block w.heap.size HXL.out).trans HXB.out); have HB := Lib.hid (bel0 HB0.out hb); clear hb)
          | (go_at_call 53; (with_reducible refine (HM.out _ HB.out).mono ?_); rintro e w2 ⟨rfl, hb2⟩; have HB2 := Lib.hid (bel0 HB.out hb2); clear hb2))
        go_ret
        exact ⟨rfl, HB2.out⟩
    · have k0 : (x.h == 0) = false := by simpa using h0
      rw [show wrongB x = (ofZ x.r != 2 || !marksB x.m) by unfold wrongB; rw [if_neg hr', if_neg h3, if_neg h0]]
      clear h0 h3 hr'
      cases hz : (ofZ x.r == 2) with
      | false =>
        have hz' : (ofZ x.r != 2) = true := by rw [bne, hz]; rfl
        rw [hz']
        generalize ofZ x.r = z at *
        clear HM
        go_enter Tryd.func26, Tryd.ntmps26
        go_wp2_with (go_at_call 47; (with_reducible refine (HW.out).mono ?_); rintro e w1 ⟨rfl, hb⟩; have HB := Lib.hid (bel0 HB0.out hb); clear hb)
        go_ret
        exact ⟨rfl, HB.out⟩
      | true =>
        have hz' : (ofZ x.r != 2) = false := by rw [bne, hz]; rfl
        rw [hz', Bool.false_or]
        generalize ofZ x.r = z at *
        generalize marksB x.m = q at *
        go_enter Tryd.func26, Tryd.ntmps26
        go_wp2_with (first
          | (go_at_call 47; (with_reducible refine (HW.out).mono ?_); rintro e w1 ⟨rfl, hb⟩; have x1 := cell_of_row _ _ 1 _ _ _ ((hb.block w.heap.size HXL.out).trans HXB.out); have HB := Lib.hid (bel0 HB0.out hb); clear hb)
          | (go_at_call 53; (with_reducible refine (HM.out _ HB.out).mono ?_); rintro e w2 ⟨rfl, hb2⟩; have HB2 := Lib.hid (bel0 HB.out hb2); clear hb2))
        go_ret
        exact ⟨rfl, HB2.out⟩
/-- Both widths' and utf8's tables lie in their places. -/
structure GT (w : World) : Prop where
  wt : WT w
  h4 : max 2 3 + 1 ≤ w.heap.size
  ut : UT w
theorem GT.below {w w' : World} (h : GT w) (hb : Below w.heap.size w w') : GT w' := ⟨h.wt.below hb, Nat.le_trans h.h4 hb.size, h.ut.below hb⟩
theorem isWrong_any (x : CC) (w : World) (h : GT w) : Calls Tryd.prog 26 #[.agg #[.int .i32 x.r, .string x.m, .int .i64 x.h, .int .i64 x.fk, .int .i64 x.fn, .int .i64 x.bk, .int .i64 x.bn, .int .i64 x.fl]] w fun e w' => e = .returned (.bool (wrongB x)) ∧ Below w.heap.size w w' := by
  by_cases hr : x.r = 0
  · exact isWrong_r x hr w
  · exact isWrong_m x (by simpa using hr) w h.wt h.h4 h.ut
theorem rightRow_any (A : Option Addr) (l : List CC) (n c : Nat) (hn : n = l.length) (hl : n ≤ 1000) (w : World) (hG : GT w) (h : RC w w.heap.size A l) :
    Calls Tryd.prog 9 #[.slice A n c] w fun e w' => e = .returned (.bool (sameC (mendL l) l && !anyC wrongB l)) ∧ Below w.heap.size w w' :=
  right_any wrongB A l n c hn hl w h fun k _ W hW => isWrong_any (Ac l k) W (hG.below hW)
end Go.Proofs.YtoiekhjmfoodiaaDoor
