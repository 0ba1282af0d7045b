/- The walks of the two closures, of replace at each, of Lay, Take, Strict. Written by mkxd.py. -/
import Derived.Test.YthoadaocbkbefaaDoorXc
import Derived.Test.YthoadaocbkbefaaDoorGu
import Derived.Test.YthoadaocbkbefaaDoorKi
namespace Go.Proofs.YthoadaocbkbefaaDoor
open Go.RowKit

set_option maxRecDepth 100000 in
set_option maxHeartbeats 1000000 in
theorem layFn_any (c : UInt8) (r : List UInt8) (w : World) (_ : (c :: r).length ≤ 1000000) (_ : EV w) : Calls Tryd.prog 18 #[.string (bsB (c :: r))] w fun e w' => e = .returned (.tuple #[.string (bsB (lay1 c)), .int .i64 1]) ∧ Below w.heap.size w w' := by
  have HI := Lib.hid (isPlain_any c)
  have HP := Lib.hid (percent_any c)
  have i0 := idx0_bs c r
  have h1 : (1 : Int) ≤ (bsB (c :: r)).size := by rw [bsB_size]; simp; omega
  have hx : (bsB (c :: r)).extract 0 1 = bsB [c] := by rw [bs_extract]; rfl
  unfold lay1
  cases hp : plB c with
  | true =>
    rw [hp] at HI
    rw [if_pos rfl]
    clear hp HP
    generalize bsB (c :: r) = t at *
    generalize bsB [c] = u at *
    generalize c.toNat = n at *
    go_enter Tryd.func18, Tryd.ntmps18
    go_wp2_with (go_at_call 19; (with_reducible refine (HI.out _).mono ?_); rintro e w1 ⟨rfl, rfl⟩)
    go_ret2
    exact ⟨rfl, Below.refl _ _⟩
  | false =>
    rw [hp] at HI
    rw [if_neg (by decide)]
    clear hp
    generalize bsB (c :: r) = t at *
    generalize bsB [c] = u at *
    generalize bsB [37, hexU (c.toNat / 16), hexU (c.toNat % 16)] = v at *
    generalize c.toNat = n at *
    go_enter Tryd.func18, Tryd.ntmps18
    go_wp2_with (first
      | (go_at_call 19; (with_reducible refine (HI.out _).mono ?_); rintro e w1 ⟨rfl, rfl⟩)
      | (go_at_call 20; (with_reducible refine (HP.out _).mono ?_); rintro e w2 ⟨rfl, hb⟩; have HB := Lib.hid hb; clear hb))
    go_ret2
    exact ⟨rfl, HB.out⟩
/-- What a text's beginning is taken as, and how long it is. -/
def take1 (c : UInt8) (r : List UInt8) : UInt8 × Nat := match pct1 (c :: r) with
  | some x => (x, 3)
  | none => (c, 1)
set_option maxRecDepth 100000 in
set_option maxHeartbeats 1000000 in
theorem takeFn_any (c : UInt8) (r : List UInt8) (w : World) (hl : (c :: r).length ≤ 1000000) (hE : EV w) : Calls Tryd.prog 23 #[.string (bsB (c :: r))] w fun e w' => e = .returned (.tuple #[.string (bsB [(take1 c r).1]), .int .i64 (take1 c r).2]) ∧ Below w.heap.size w w' := by
  have HP := Lib.hid (percented_any (c :: r) hl w hE)
  have h1 : (1 : Int) ≤ (bsB (c :: r)).size := by rw [bsB_size]; simp; omega
  have hx : (bsB (c :: r)).extract 0 1 = bsB [c] := by rw [bs_extract]; rfl
  unfold take1
  cases hp : pct1 (c :: r) with
  | some x =>
    rw [hp] at HP
    change Hid (Calls Tryd.prog 21 #[.string (bsB (c :: r))] w fun e w' => e = .returned (.tuple #[.int .u8 x.toNat, .bool true]) ∧ Below w.heap.size w w') at HP
    show Calls _ _ _ _ fun e w' => e = .returned (.tuple #[.string (bsB [x]), .int .i64 3]) ∧ _
    have HCV : Hid (∀ W : World, (Go.convert 41 9 (.slice (some ⟨W.heap.size, 0, none⟩) 1 1)).run Tryd.prog (W.alloc (.cells #[.int .u8 x.toNat] 5)) = .ok (.string (bsB [x])) (W.alloc (.cells #[.int .u8 x.toNat] 5))) := Lib.hid fun W => conv_new0 [x] 1 rfl W _ rfl
    have HB := Lib.hid fun (W : World) (h : Below w.heap.size w W) => (h.alloc h.size (.cells #[.int .u8 x.toNat] 5))
    clear hp hE hl
    generalize bsB (c :: r) = t at *
    generalize bsB [c] = u at *
    generalize bsB [x] = v at *
    generalize x.toNat = n at *
    go_enter Tryd.func23, Tryd.ntmps23
    go_wp2_with (go_at_call 21; (with_reducible refine (HP.out).mono ?_); rintro e w1 ⟨rfl, hb⟩; have HB1 := Lib.hid hb; have hcv := HCV.out w1; clear hb)
    go_ret2
    exact ⟨rfl, HB.out _ HB1.out⟩
  | none =>
    rw [hp] at HP
    change Hid (Calls Tryd.prog 21 #[.string (bsB (c :: r))] w fun e w' => e = .returned (.tuple #[.int .u8 0, .bool false]) ∧ Below w.heap.size w w') at HP
    show Calls _ _ _ _ fun e w' => e = .returned (.tuple #[.string (bsB [c]), .int .i64 1]) ∧ _
    clear hp hE hl
    generalize bsB (c :: r) = t at *
    generalize bsB [c] = u at *
    go_enter Tryd.func23, Tryd.ntmps23
    go_wp2_with (go_at_call 21; (with_reducible refine (HP.out).mono ?_); rintro e w1 ⟨rfl, hb⟩; have HB1 := Lib.hid hb; clear hb)
    go_ret2
    exact ⟨rfl, HB1.out⟩
theorem IsB.past {B b : Nat} {bs : List Value} {w w' : World} (h : Lib.IsBuilder 46 5 B b bs w) (hb : Below w.heap.size w w') : Lib.IsBuilder 46 5 B b bs w' := by
  have k : ∀ p, Lib.BuilderAt 46 5 B b p bs w → Lib.BuilderAt 46 5 B b p bs w' := fun p ⟨h1, v, h2, h3, h4⟩ => ⟨h1, v, (hb.block b (Array.getElem?_eq_some_iff.1 h2).1).trans h2, own_past h3 hb, h4⟩
  rcases h with h | h
  · exact .inl (k _ h)
  · exact .inr (k _ h)
theorem lay1_len (c : UInt8) : (lay1 c).length ≤ 3 := by unfold lay1; split <;> simp
def strN : Value → Nat
  | .string s => s.size
  | _ => 0
theorem take1_cons (c : UInt8) (r : List UInt8) : takeL (c :: r) = (take1 c r).1 :: takeL ((c :: r).drop (take1 c r).2) := by
  rw [takeL_cons]
  unfold take1
  cases pct1 (c :: r) <;> rfl
theorem take1_len (c : UInt8) (r : List UInt8) : 1 ≤ (take1 c r).2 ∧ (take1 c r).2 ≤ (c :: r).length := by
  unfold take1
  cases h : pct1 (c :: r) with
  | none => simp
  | some x =>
    refine ⟨by show 1 ≤ 3; omega, ?_⟩
    rcases Nat.lt_or_ge (c :: r).length 3 with h3 | h3
    · rw [pct1_short h3] at h; cases h
    · exact h3
set_option maxRecDepth 100000 in
set_option maxHeartbeats 4000000 in
theorem repLay (l : List UInt8) (hl : l.length ≤ 100000) (w : World) (hE : EV w) :
    Calls Tryd.prog 17 #[.string (bsB l), .func (.func 18) #[] #[]] w fun e w' => e = .returned (.string (bsB (layL l))) ∧ Below w.heap.size w w' := by
  have HE := Lib.hid hE
  obtain ⟨res, hres⟩ : ∃ res, res = bsB (layL l) := ⟨_, rfl⟩
  rw [← hres]
  have HR := Lib.hid hres
  clear hres
  have hbw : Below w.heap.size w (w.alloc (.cells #[.pointer none, .slice none 0 0] 46)) := belA (Below.refl _ _) _
  have HB0 := Lib.hid hbw
  have HK0 : Hid (Lib.IsBuilder 46 5 w.heap.size w.heap.size (Lib.byteCells []) (w.alloc (.cells #[.pointer none, .slice none 0 0] 46))) := Lib.hid (Lib.fresh_isBuilder _ _ w)
  have HQ0 : Hid ([] ++ layL l = layL l ∧ l.length ≤ 100000 ∧ ([] : List UInt8).length + 3 * l.length ≤ 300000) := Lib.hid ⟨rfl, hl, by simp; omega⟩
  clear hE hbw hl
  go_enter Tryd.func17, Tryd.ntmps17
  go_wp2
  go_loopw [0] (fun q wr => ∃ rest D : List UInt8, q = .string (bsB rest) ∧ Hid (D ++ layL rest = layL l ∧ rest.length ≤ 100000 ∧ D.length + 3 * rest.length ≤ 300000) ∧ Hid (Lib.IsBuilder 46 5 w.heap.size w.heap.size (Lib.byteCells D) wr) ∧ Hid (Below w.heap.size w wr)) (fun q _ => strN q)
  case atStart => exact ⟨l, [], rfl, HQ0, HK0, HB0⟩
  case round =>
    obtain ⟨rest, D, rfl, HQ, HK, HB⟩ := hrel
    cases rest with
    | nil =>
      have he : (bsB []).toList.isEmpty = true := by rw [bs_toList]; rfl
      have hst : Hid (Calls Tryd.prog 30 #[.pointer (some ⟨w.heap.size, 0, none⟩)] wr fun e w' => e = .returned (.string res) ∧ Below w.heap.size w w') := Lib.hid (by
        have h2 : D = layL l := by rw [← HQ.out.1, layL, List.append_nil]
        rw [HR.out, ← h2]
        exact (Tryd.Builder_String_any w.heap.size w.heap.size D wr HK.out HB.out.size).mono fun e w' ⟨h1, h3⟩ => ⟨h1, HB.out.trans h3⟩)
      clear HQ HK
      generalize bsB [] = t0 at *
      go_wp2_with (go_at_call 30; (with_reducible refine (hst.out).mono ?_); rintro e w2 ⟨rfl, hb2⟩; have HB2 := Lib.hid hb2; clear hb2)
      go_ret
      exact ⟨rfl, HB2.out⟩
    | cons c r =>
      have he : (bsB (c :: r)).toList.isEmpty = false := by rw [bs_toList]; rfl
      obtain ⟨hq1, hq2, hq3⟩ := HQ.out
      have HF := Lib.hid (layFn_any c r wr (by omega) (HE.out.past HB.out))
      have hcl : layL (c :: r) = lay1 c ++ layL ((c :: r).drop 1) := rfl
      obtain ⟨hn1, hn2, hn3⟩ : 1 ≤ 1 ∧ 1 ≤ (c :: r).length ∧ (lay1 c).length ≤ 3 := ⟨Nat.le_refl _, by simp, lay1_len c⟩
      have hxt : (bsB (c :: r)).extract 1 (bsB (c :: r)).size = bsB ((c :: r).drop (1)) := by
        rw [bs_extract, bsB_size, List.take_of_length_le (by simp)]
      have HQ2 : Hid ((D ++ lay1 c) ++ layL ((c :: r).drop (1)) = layL l ∧ ((c :: r).drop (1)).length ≤ 100000 ∧ (D ++ lay1 c).length + 3 * ((c :: r).drop (1)).length ≤ 300000) := Lib.hid ⟨by rw [List.append_assoc, ← hcl, hq1], by rw [List.length_drop]; omega, by rw [List.length_drop, List.length_append]; omega⟩
      have HWS : Hid (∀ W, Below wr.heap.size wr W → Calls Tryd.prog 29 #[.pointer (some ⟨w.heap.size, 0, none⟩), .string (bsB (lay1 c))] W fun e w' => e = .returned (.tuple #[.int .i64 (bsB (lay1 c)).size, .nilIface]) ∧ Lib.IsBuilder 46 5 w.heap.size w.heap.size (Lib.byteCells (D ++ lay1 c)) w' ∧ Below w.heap.size w w') := Lib.hid fun W hW => by
        have hB := bel0 HB.out hW
        refine (writeString_any w.heap.size w.heap.size _ (bsB (lay1 c)) W (IsB.past HK.out hW) (by rw [Lib.byteCells_length, bsB_size]; omega) hB.size).mono fun e w' ⟨he, hb, hw⟩ => ⟨he, .inr ?_, hB.trans hw⟩
        have e : Lib.byteCells (D ++ lay1 c) = Lib.byteCells D ++ Lib.strCells (bsB (lay1 c)) := by
          rw [Lib.strCells_eq]; simp [Lib.byteCells, bsB]
        rw [e]; exact hb
      have hsz2 : (bsB ((c :: r).drop (1))).size < (bsB (c :: r)).size := by rw [bsB_size, bsB_size, List.length_drop, List.length_cons]; omega
      have HSZ := Lib.hid hsz2
      have hnn : (((1 : Nat) : Int)) ≤ (bsB (c :: r)).size := by rw [bsB_size]; omega
      have HK3 := HK
      clear HQ HK hq1 hq2 hq3 hcl hn1 hn2 hn3 hsz2
      generalize hrd : (c :: r).drop (1) = rd at *
      generalize hdt : D ++ lay1 c = D2 at *
      clear hrd hdt HK3
      generalize bsB (lay1 c) = tx at *
      generalize ht2 : bsB rd = t2 at *
      replace ht2 := Lib.hid ht2
      generalize bsB (c :: r) = t1 at *
      go_wp2_with (first
        | (go_at_call 18; (with_reducible refine (HF.out).mono ?_); rintro e w2 ⟨rfl, hb2⟩; have HB2 := Lib.hid hb2; clear hb2)
        | (go_at_call 29; (with_reducible refine (HWS.out _ HB2.out).mono ?_); rintro e w3 ⟨rfl, hB3, hb3⟩; have HQ3 := Lib.hid hB3; have HB3 := Lib.hid hb3; clear hB3 hb3))
      go_roundw
      case rel => exact ⟨rd, D2, by rw [ht2.out], HQ2, HQ3, HB3⟩
      case measure => exact HSZ.out
set_option maxRecDepth 100000 in
set_option maxHeartbeats 4000000 in
theorem repTake (l : List UInt8) (hl : l.length ≤ 100000) (w : World) (hE : EV w) :
    Calls Tryd.prog 17 #[.string (bsB l), .func (.func 23) #[] #[]] w fun e w' => e = .returned (.string (bsB (takeL l))) ∧ Below w.heap.size w w' := by
  have HE := Lib.hid hE
  obtain ⟨res, hres⟩ : ∃ res, res = bsB (takeL l) := ⟨_, rfl⟩
  rw [← hres]
  have HR := Lib.hid hres
  clear hres
  have hbw : Below w.heap.size w (w.alloc (.cells #[.pointer none, .slice none 0 0] 46)) := belA (Below.refl _ _) _
  have HB0 := Lib.hid hbw
  have HK0 : Hid (Lib.IsBuilder 46 5 w.heap.size w.heap.size (Lib.byteCells []) (w.alloc (.cells #[.pointer none, .slice none 0 0] 46))) := Lib.hid (Lib.fresh_isBuilder _ _ w)
  have HQ0 : Hid ([] ++ takeL l = takeL l ∧ l.length ≤ 100000 ∧ ([] : List UInt8).length + 3 * l.length ≤ 300000) := Lib.hid ⟨rfl, hl, by simp; omega⟩
  clear hE hbw hl
  go_enter Tryd.func17, Tryd.ntmps17
  go_wp2
  go_loopw [0] (fun q wr => ∃ rest D : List UInt8, q = .string (bsB rest) ∧ Hid (D ++ takeL rest = takeL l ∧ rest.length ≤ 100000 ∧ D.length + 3 * rest.length ≤ 300000) ∧ Hid (Lib.IsBuilder 46 5 w.heap.size w.heap.size (Lib.byteCells D) wr) ∧ Hid (Below w.heap.size w wr)) (fun q _ => strN q)
  case atStart => exact ⟨l, [], rfl, HQ0, HK0, HB0⟩
  case round =>
    obtain ⟨rest, D, rfl, HQ, HK, HB⟩ := hrel
    cases rest with
    | nil =>
      have he : (bsB []).toList.isEmpty = true := by rw [bs_toList]; rfl
      have hst : Hid (Calls Tryd.prog 30 #[.pointer (some ⟨w.heap.size, 0, none⟩)] wr fun e w' => e = .returned (.string res) ∧ Below w.heap.size w w') := Lib.hid (by
        have h2 : D = takeL l := by rw [← HQ.out.1, takeL_nil, List.append_nil]
        rw [HR.out, ← h2]
        exact (Tryd.Builder_String_any w.heap.size w.heap.size D wr HK.out HB.out.size).mono fun e w' ⟨h1, h3⟩ => ⟨h1, HB.out.trans h3⟩)
      clear HQ HK
      generalize bsB [] = t0 at *
      go_wp2_with (go_at_call 30; (with_reducible refine (hst.out).mono ?_); rintro e w2 ⟨rfl, hb2⟩; have HB2 := Lib.hid hb2; clear hb2)
      go_ret
      exact ⟨rfl, HB2.out⟩
    | cons c r =>
      have he : (bsB (c :: r)).toList.isEmpty = false := by rw [bs_toList]; rfl
      obtain ⟨hq1, hq2, hq3⟩ := HQ.out
      have HF := Lib.hid (takeFn_any c r wr (by omega) (HE.out.past HB.out))
      have hcl : takeL (c :: r) = [(take1 c r).1] ++ takeL ((c :: r).drop ((take1 c r).2)) := take1_cons c r
      obtain ⟨hn1, hn2, hn3⟩ : 1 ≤ (take1 c r).2 ∧ (take1 c r).2 ≤ (c :: r).length ∧ [(take1 c r).1].length ≤ 3 := ⟨(take1_len c r).1, (take1_len c r).2, by simp⟩
      have hxt : (bsB (c :: r)).extract ((take1 c r).2) (bsB (c :: r)).size = bsB ((c :: r).drop ((take1 c r).2)) := by
        rw [bs_extract, bsB_size, List.take_of_length_le (by simp)]
      have HQ2 : Hid ((D ++ [(take1 c r).1]) ++ takeL ((c :: r).drop ((take1 c r).2)) = takeL l ∧ ((c :: r).drop ((take1 c r).2)).length ≤ 100000 ∧ (D ++ [(take1 c r).1]).length + 3 * ((c :: r).drop ((take1 c r).2)).length ≤ 300000) := Lib.hid ⟨by rw [List.append_assoc, ← hcl, hq1], by rw [List.length_drop]; omega, by rw [List.length_drop, List.length_append]; omega⟩
      have HWS : Hid (∀ W, Below wr.heap.size wr W → Calls Tryd.prog 29 #[.pointer (some ⟨w.heap.size, 0, none⟩), .string (bsB ([(take1 c r).1]))] W fun e w' => e = .returned (.tuple #[.int .i64 (bsB ([(take1 c r).1])).size, .nilIface]) ∧ Lib.IsBuilder 46 5 w.heap.size w.heap.size (Lib.byteCells (D ++ [(take1 c r).1])) w' ∧ Below w.heap.size w w') := Lib.hid fun W hW => by
        have hB := bel0 HB.out hW
        refine (writeString_any w.heap.size w.heap.size _ (bsB ([(take1 c r).1])) W (IsB.past HK.out hW) (by rw [Lib.byteCells_length, bsB_size]; omega) hB.size).mono fun e w' ⟨he, hb, hw⟩ => ⟨he, .inr ?_, hB.trans hw⟩
        have e : Lib.byteCells (D ++ [(take1 c r).1]) = Lib.byteCells D ++ Lib.strCells (bsB ([(take1 c r).1])) := by
          rw [Lib.strCells_eq]; simp [Lib.byteCells, bsB]
        rw [e]; exact hb
      have hsz2 : (bsB ((c :: r).drop ((take1 c r).2))).size < (bsB (c :: r)).size := by rw [bsB_size, bsB_size, List.length_drop, List.length_cons]; omega
      have HSZ := Lib.hid hsz2
      have hnn : ((((take1 c r).2 : Nat) : Int)) ≤ (bsB (c :: r)).size := by rw [bsB_size]; omega
      have HK3 := HK
      clear HQ HK hq1 hq2 hq3 hcl hn1 hn2 hn3 hsz2
      generalize hrd : (c :: r).drop ((take1 c r).2) = rd at *
      generalize hdt : D ++ [(take1 c r).1] = D2 at *
      clear hrd hdt HK3
      generalize (take1 c r).2 = nn at *
      generalize bsB [(take1 c r).1] = tx at *
      generalize ht2 : bsB rd = t2 at *
      replace ht2 := Lib.hid ht2
      generalize bsB (c :: r) = t1 at *
      go_wp2_with (first
        | (go_at_call 23; (with_reducible refine (HF.out).mono ?_); rintro e w2 ⟨rfl, hb2⟩; have HB2 := Lib.hid hb2; clear hb2)
        | (go_at_call 29; (with_reducible refine (HWS.out _ HB2.out).mono ?_); rintro e w3 ⟨rfl, hB3, hb3⟩; have HQ3 := Lib.hid hB3; have HB3 := Lib.hid hb3; clear hB3 hb3))
      go_roundw
      case rel => exact ⟨rd, D2, by rw [ht2.out], HQ2, HQ3, HB3⟩
      case measure => exact HSZ.out
set_option maxRecDepth 100000 in
theorem lay_any (l : List UInt8) (hl : l.length ≤ 100000) (w : World) (hE : EV w) : Calls Tryd.prog 9 #[.string (bsB l)] w fun e w' => e = .returned (.string (bsB (layL l))) ∧ Below w.heap.size w w' := by
  have HR := Lib.hid (repLay l hl w hE)
  generalize bsB l = t at *
  generalize bsB (layL l) = u at *
  go_enter Tryd.func9, Tryd.ntmps9
  go_wp2_with (go_at_call 17; (with_reducible refine (HR.out).mono ?_); rintro e w1 ⟨rfl, hb⟩; have HB1 := Lib.hid hb; clear hb)
  go_ret
  exact ⟨rfl, HB1.out⟩
set_option maxRecDepth 100000 in
theorem take_any (l : List UInt8) (hl : l.length ≤ 100000) (w : World) (hE : EV w) : Calls Tryd.prog 12 #[.string (bsB l)] w fun e w' => e = .returned (.string (bsB (takeL l))) ∧ Below w.heap.size w w' := by
  have HR := Lib.hid (repTake l hl w hE)
  generalize bsB l = t at *
  generalize bsB (takeL l) = u at *
  go_enter Tryd.func12, Tryd.ntmps12
  go_wp2_with (go_at_call 17; (with_reducible refine (HR.out).mono ?_); rintro e w1 ⟨rfl, hb⟩; have HB1 := Lib.hid hb; clear hb)
  go_ret
  exact ⟨rfl, HB1.out⟩
/-- What Strict answers. -/
def stV (l : List UInt8) : Value := if strictL l then .tuple #[.string (bsB (takeL l)), .bool true] else .tuple #[.string ⟨#[]⟩, .bool false]
theorem strict_at (l : List UInt8) (k : Nat) (h : k < l.length) : strictL (l.drop k) = ((l[k]'h != 37 || (pct1 (l.drop k)).isSome) && strictL (l.drop (k + 1))) := by
  rw [List.drop_eq_getElem_cons h]
  rfl
set_option maxRecDepth 100000 in
set_option maxHeartbeats 2000000 in
theorem strict_any (l : List UInt8) (hl : l.length ≤ 100000) (w : World) (hE : EV w) : Calls Tryd.prog 10 #[.string (bsB l)] w fun e w' => e = .returned (stV l) ∧ Below w.heap.size w w' := by
  have HE := Lib.hid hE
  have HL := Lib.hid hl
  have HT := Lib.hid fun (W : World) (h : Below w.heap.size w W) => take_any l hl W (hE.past h)
  have hsz : (bsB l).size = l.length := bsB_size l
  obtain ⟨sv, hsv⟩ : ∃ sv, sv = stV l := ⟨_, rfl⟩
  rw [← hsv]
  have HSV := Lib.hid hsv
  clear hE hl hsv
  go_enter Tryd.func10, Tryd.ntmps10
  go_wp2
  go_loopw [9] (fun q wr => ∃ k : Nat, q = .int .i64 k ∧ k ≤ l.length ∧ Hid (strictL l = strictL (l.drop k)) ∧ Hid (Below w.heap.size w wr)) (fun q _ => l.length - (intOf q).toNat)
  case atStart => exact ⟨0, rfl, Nat.zero_le _, Lib.hid rfl, Lib.hid (Below.refl _ _)⟩
  case round =>
    obtain ⟨k, rfl, hk, HK, HB⟩ := hrel
    by_cases hlt : k < l.length
    · have hki : (k : Int) < l.length := by omega
      have HA := Lib.hid (strict_at l k hlt)
      have hix := idx_bs l k _ (List.getElem?_eq_getElem hlt)
      have hx : (bsB l).extract k (bsB l).size = bsB (l.drop k) := by rw [bs_extract, bsB_size, List.take_of_length_le (by simp)]
      rw [hsz] at hx
      have HP := Lib.hid (percented_any (l.drop k) (by rw [List.length_drop]; have := HL.out; omega) wr (HE.out.past HB.out))
      generalize l[k]'hlt = c at *
      have HXT := Lib.hid hx
      have HNX : Hid (c ≠ 37 ∨ (pct1 (l.drop k)).isSome = true → strictL l = strictL (l.drop (k + 1))) := Lib.hid fun h => by
        rw [HK.out, HA.out]
        rcases h with h | h
        · rw [bne_iff_ne.2 h]; simp
        · rw [h]; simp
      have HNO : Hid (c = 37 ∧ pct1 (l.drop k) = none → sv = .tuple #[.string ⟨#[]⟩, .bool false]) := Lib.hid fun h => by
        rw [HSV.out]
        have : strictL l = false := by rw [HK.out, HA.out, h.1, h.2]; rfl
        unfold stV
        rw [this]
        rfl
      clear HK HA
      generalize hpq : pct1 (l.drop k) = pq at *
      generalize bsB (l.drop k) = t2 at *
      generalize bsB l = t at *
      have hm5 := HL.out
      generalize hml : l.length = m at *
      clear hml
      cases pq with
      | some x =>
        change Hid (Calls Tryd.prog 21 #[.string t2] wr fun e w' => e = .returned (.tuple #[.int .u8 x.toNat, .bool true]) ∧ Below wr.heap.size wr w') at HP
        have HN := Lib.hid (HNX.out (.inr rfl))
        clear hpq HNX
        go_wp2_with (go_at_call 21; (with_reducible refine (HP.out).mono ?_); rintro e w1 ⟨rfl, hb⟩; have HB1 := Lib.hid (bel0 HB.out hb); clear hb)
        all_goals
          go_roundw
          case rel => exact ⟨k + 1, by go_num, hlt, HN, HB1⟩
          case measure => simp [intOf]; omega
      | none =>
        change Hid (Calls Tryd.prog 21 #[.string t2] wr fun e w' => e = .returned (.tuple #[.int .u8 0, .bool false]) ∧ Below wr.heap.size wr w') at HP
        by_cases hc : c = 37
        · have HN := Lib.hid (HNO.out ⟨hc, rfl⟩)
          subst hc
          change ∀ W, (Instr.index 9 (.string t) (.int .i64 k)).run Tryd.prog W = .ok (.int .u8 37) W at hix
          clear hpq HNX HNO
          go_wp2_with (go_at_call 21; (with_reducible refine (HP.out).mono ?_); rintro e w1 ⟨rfl, hb⟩; have HB1 := Lib.hid (bel0 HB.out hb); clear hb)
          go_ret2
          exact ⟨congrArg Ending.returned HN.out.symm, HB1.out⟩
        · have HN := Lib.hid (HNX.out (.inl hc))
          have hcn : ((c.toNat : Int) == 37) = false := by
            have : c.toNat ≠ 37 := fun e => hc (UInt8.toNat_inj.1 e)
            simp; omega
          clear hpq HNX HNO hc
          generalize c.toNat = cn at *
          go_wp2_with (go_at_call 21; (with_reducible refine (HP.out).mono ?_); rintro e w1 ⟨rfl, hb⟩; have HB1 := Lib.hid (bel0 HB.out hb); clear hb)
          go_roundw
          case rel => exact ⟨k + 1, by go_num, hlt, HN, HB1⟩
          case measure => simp [intOf]; omega
    · obtain rfl : k = l.length := by omega
      have HN : Hid (sv = .tuple #[.string (bsB (takeL l)), .bool true]) := Lib.hid (by
        rw [HSV.out]
        have : strictL l = true := by rw [HK.out, List.drop_length]; rfl
        unfold stV
        rw [this]
        rfl)
      have HTT := Lib.hid (HT.out wr HB.out)
      clear HK HT
      generalize bsB (takeL l) = u at *
      generalize bsB l = t at *
      go_wp2_with (go_at_call 12; (with_reducible refine (HTT.out).mono ?_); rintro e w1 ⟨rfl, hb⟩; have HB1 := Lib.hid (bel0 HB.out hb); clear hb)
      go_ret2
      exact ⟨congrArg Ending.returned HN.out.symm, HB1.out⟩
end Go.Proofs.YthoadaocbkbefaaDoor
