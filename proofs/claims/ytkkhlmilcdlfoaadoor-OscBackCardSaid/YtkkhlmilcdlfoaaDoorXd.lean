/- The walks of the two closures, of replace at each, of Lay, Take, Strict. Written by mkxd.py. -/
import Derived.Test.YtkkhlmilcdlfoaaDoorXc
import Derived.Test.YtkkhlmilcdlfoaaDoorGu
import Derived.Test.YtkkhlmilcdlfoaaDoorKi
namespace Go.Proofs.YtkkhlmilcdlfoaaDoor
open Go.RowKit

/-- What a text's beginning is taken as, and how long it is. -/
def take1 (c : UInt8) (r : List UInt8) : UInt8 × Nat := match pct1 (c :: r) with
  | some x => (x, 3)
  | none => (c, 1)
set_option maxRecDepth 100000 in
set_option maxHeartbeats 1000000 in
theorem takeFn_any (c : UInt8) (r : List UInt8) (w : World) (hl : (c :: r).length ≤ 1000000) (hE : EV w) : Calls Tryd.prog 81 #[.string (bsB (c :: r))] w fun e w' => e = .returned (.tuple #[.string (bsB [(take1 c r).1]), .int .i64 (take1 c r).2]) ∧ Below w.heap.size w w' := by
  have HP := Lib.hid (percented_any (c :: r) hl w hE)
  have h1 : (1 : Int) ≤ (bsB (c :: r)).size := by rw [bsB_size]; simp; omega
  have hx : (bsB (c :: r)).extract 0 1 = bsB [c] := by rw [bs_extract]; rfl
  unfold take1
  cases hp : pct1 (c :: r) with
  | some x =>
    rw [hp] at HP
    change Hid (Calls Tryd.prog 82 #[.string (bsB (c :: r))] w fun e w' => e = .returned (.tuple #[.int .u8 x.toNat, .bool true]) ∧ Below w.heap.size w w') at HP
    show Calls _ _ _ _ fun e w' => e = .returned (.tuple #[.string (bsB [x]), .int .i64 3]) ∧ _
    have HCV : Hid (∀ W : World, (Go.convert 46 9 (.slice (some ⟨W.heap.size, 0, none⟩) 1 1)).run Tryd.prog (W.alloc (.cells #[.int .u8 x.toNat] 5)) = .ok (.string (bsB [x])) (W.alloc (.cells #[.int .u8 x.toNat] 5))) := Lib.hid fun W => conv_new0 [x] 1 rfl W _ rfl
    have HB := Lib.hid fun (W : World) (h : Below w.heap.size w W) => (h.alloc h.size (.cells #[.int .u8 x.toNat] 5))
    clear hp hE hl
    generalize bsB (c :: r) = t at *
    generalize bsB [c] = u at *
    generalize bsB [x] = v at *
    generalize x.toNat = n at *
    go_enter Tryd.func81, Tryd.ntmps81
    go_wp2_with (go_at_call 82; (with_reducible refine (HP.out).mono ?_); rintro e w1 ⟨rfl, hb⟩; have HB1 := Lib.hid hb; have hcv := HCV.out w1; clear hb)
    go_ret2
    exact ⟨rfl, HB.out _ HB1.out⟩
  | none =>
    rw [hp] at HP
    change Hid (Calls Tryd.prog 82 #[.string (bsB (c :: r))] w fun e w' => e = .returned (.tuple #[.int .u8 0, .bool false]) ∧ Below w.heap.size w w') at HP
    show Calls _ _ _ _ fun e w' => e = .returned (.tuple #[.string (bsB [c]), .int .i64 1]) ∧ _
    clear hp hE hl
    generalize bsB (c :: r) = t at *
    generalize bsB [c] = u at *
    go_enter Tryd.func81, Tryd.ntmps81
    go_wp2_with (go_at_call 82; (with_reducible refine (HP.out).mono ?_); rintro e w1 ⟨rfl, hb⟩; have HB1 := Lib.hid hb; clear hb)
    go_ret2
    exact ⟨rfl, HB1.out⟩
theorem IsB.past {B b : Nat} {bs : List Value} {w w' : World} (h : Lib.IsBuilder 48 5 B b bs w) (hb : Below w.heap.size w w') : Lib.IsBuilder 48 5 B b bs w' := by
  have k : ∀ p, Lib.BuilderAt 48 5 B b p bs w → Lib.BuilderAt 48 5 B b p bs w' := fun p ⟨h1, v, h2, h3, h4⟩ => ⟨h1, v, (hb.block b (Array.getElem?_eq_some_iff.1 h2).1).trans h2, own_past h3 hb, h4⟩
  rcases h with h | h
  · exact .inl (k _ h)
  · exact .inr (k _ h)
theorem lay1_len (c : UInt8) : (lay1 c).length ≤ 3 := by unfold lay1; split <;> simp
def strN : Value → Nat
  | .string s => s.size
  | _ => 0
theorem take1_cons (c : UInt8) (r : List UInt8) : takeL (c :: r) = (take1 c r).1 :: takeL ((c :: r).drop (take1 c r).2) := by
  rw [takeL_cons]
  unfold take1
  cases pct1 (c :: r) <;> rfl
theorem take1_len (c : UInt8) (r : List UInt8) : 1 ≤ (take1 c r).2 ∧ (take1 c r).2 ≤ (c :: r).length := by
  unfold take1
  cases h : pct1 (c :: r) with
  | none => simp
  | some x =>
    refine ⟨by show 1 ≤ 3; omega, ?_⟩
    rcases Nat.lt_or_ge (c :: r).length 3 with h3 | h3
    · rw [pct1_short h3] at h; cases h
    · exact h3
set_option maxRecDepth 100000 in
set_option maxHeartbeats 4000000 in
theorem repTake (l : List UInt8) (hl : l.length ≤ 100000) (w : World) (hE : EV w) :
    Calls Tryd.prog 80 #[.string (bsB l), .func (.func 81) #[] #[]] w fun e w' => e = .returned (.string (bsB (takeL l))) ∧ Below w.heap.size w w' := by
  have HE := Lib.hid hE
  obtain ⟨res, hres⟩ : ∃ res, res = bsB (takeL l) := ⟨_, rfl⟩
  rw [← hres]
  have HR := Lib.hid hres
  clear hres
  have hbw : Below w.heap.size w (w.alloc (.cells #[.pointer none, .slice none 0 0] 48)) := belA (Below.refl _ _) _
  have HB0 := Lib.hid hbw
  have HK0 : Hid (Lib.IsBuilder 48 5 w.heap.size w.heap.size (Lib.byteCells []) (w.alloc (.cells #[.pointer none, .slice none 0 0] 48))) := Lib.hid (Lib.fresh_isBuilder _ _ w)
  have HQ0 : Hid ([] ++ takeL l = takeL l ∧ l.length ≤ 100000 ∧ ([] : List UInt8).length + 3 * l.length ≤ 300000) := Lib.hid ⟨rfl, hl, by simp; omega⟩
  clear hE hbw hl
  go_enter Tryd.func80, Tryd.ntmps80
  go_wp2
  go_loopw [0] (fun q wr => ∃ rest D : List UInt8, q = .string (bsB rest) ∧ Hid (D ++ takeL rest = takeL l ∧ rest.length ≤ 100000 ∧ D.length + 3 * rest.length ≤ 300000) ∧ Hid (Lib.IsBuilder 48 5 w.heap.size w.heap.size (Lib.byteCells D) wr) ∧ Hid (Below w.heap.size w wr)) (fun q _ => strN q)
  case atStart => exact ⟨l, [], rfl, HQ0, HK0, HB0⟩
  case round =>
    obtain ⟨rest, D, rfl, HQ, HK, HB⟩ := hrel
    cases rest with
    | nil =>
      have he : (bsB []).toList.isEmpty = true := by rw [bs_toList]; rfl
      have hst : Hid (Calls Tryd.prog 34 #[.pointer (some ⟨w.heap.size, 0, none⟩)] wr fun e w' => e = .returned (.string res) ∧ Below w.heap.size w w') := Lib.hid (by
        have h2 : D = takeL l := by rw [← HQ.out.1, takeL_nil, List.append_nil]
        rw [HR.out, ← h2]
        exact (Tryd.Builder_String_any w.heap.size w.heap.size D wr HK.out HB.out.size).mono fun e w' ⟨h1, h3⟩ => ⟨h1, HB.out.trans h3⟩)
      clear HQ HK
      generalize bsB [] = t0 at *
      go_wp2_with (go_at_call 34; (with_reducible refine (hst.out).mono ?_); rintro e w2 ⟨rfl, hb2⟩; have HB2 := Lib.hid hb2; clear hb2)
      go_ret
      exact ⟨rfl, HB2.out⟩
    | cons c r =>
      have he : (bsB (c :: r)).toList.isEmpty = false := by rw [bs_toList]; rfl
      obtain ⟨hq1, hq2, hq3⟩ := HQ.out
      have HF := Lib.hid (takeFn_any c r wr (by omega) (HE.out.past HB.out))
      have hcl : takeL (c :: r) = [(take1 c r).1] ++ takeL ((c :: r).drop ((take1 c r).2)) := take1_cons c r
      obtain ⟨hn1, hn2, hn3⟩ : 1 ≤ (take1 c r).2 ∧ (take1 c r).2 ≤ (c :: r).length ∧ [(take1 c r).1].length ≤ 3 := ⟨(take1_len c r).1, (take1_len c r).2, by simp⟩
      have hxt : (bsB (c :: r)).extract ((take1 c r).2) (bsB (c :: r)).size = bsB ((c :: r).drop ((take1 c r).2)) := by
        rw [bs_extract, bsB_size, List.take_of_length_le (by simp)]
      have HQ2 : Hid ((D ++ [(take1 c r).1]) ++ takeL ((c :: r).drop ((take1 c r).2)) = takeL l ∧ ((c :: r).drop ((take1 c r).2)).length ≤ 100000 ∧ (D ++ [(take1 c r).1]).length + 3 * ((c :: r).drop ((take1 c r).2)).length ≤ 300000) := Lib.hid ⟨by rw [List.append_assoc, ← hcl, hq1], by rw [List.length_drop]; omega, by rw [List.length_drop, List.length_append]; omega⟩
      have HWS : Hid (∀ W, Below wr.heap.size wr W → Calls Tryd.prog 31 #[.pointer (some ⟨w.heap.size, 0, none⟩), .string (bsB ([(take1 c r).1]))] W fun e w' => e = .returned (.tuple #[.int .i64 (bsB ([(take1 c r).1])).size, .nilIface]) ∧ Lib.IsBuilder 48 5 w.heap.size w.heap.size (Lib.byteCells (D ++ [(take1 c r).1])) w' ∧ Below w.heap.size w w') := Lib.hid fun W hW => by
        have hB := bel0 HB.out hW
        refine (writeString_any w.heap.size w.heap.size _ (bsB ([(take1 c r).1])) W (IsB.past HK.out hW) (by rw [Lib.byteCells_length, bsB_size]; omega) hB.size).mono fun e w' ⟨he, hb, hw⟩ => ⟨he, .inr ?_, hB.trans hw⟩
        have e : Lib.byteCells (D ++ [(take1 c r).1]) = Lib.byteCells D ++ Lib.strCells (bsB ([(take1 c r).1])) := by
          rw [Lib.strCells_eq]; simp [Lib.byteCells, bsB]
        rw [e]; exact hb
      have hsz2 : (bsB ((c :: r).drop ((take1 c r).2))).size < (bsB (c :: r)).size := by rw [bsB_size, bsB_size, List.length_drop, List.length_cons]; omega
      have HSZ := Lib.hid hsz2
      have hnn : ((((take1 c r).2 : Nat) : Int)) ≤ (bsB (c :: r)).size := by rw [bsB_size]; omega
      have HK3 := HK
      clear HQ HK hq1 hq2 hq3 hcl hn1 hn2 hn3 hsz2
      generalize hrd : (c :: r).drop ((take1 c r).2) = rd at *
      generalize hdt : D ++ [(take1 c r).1] = D2 at *
      clear hrd hdt HK3
      generalize (take1 c r).2 = nn at *
      generalize bsB [(take1 c r).1] = tx at *
      generalize ht2 : bsB rd = t2 at *
      replace ht2 := Lib.hid ht2
      generalize bsB (c :: r) = t1 at *
      go_wp2_with (first
        | (go_at_call 81; (with_reducible refine (HF.out).mono ?_); rintro e w2 ⟨rfl, hb2⟩; have HB2 := Lib.hid hb2; clear hb2)
        | (go_at_call 31; (with_reducible refine (HWS.out _ HB2.out).mono ?_); rintro e w3 ⟨rfl, hB3, hb3⟩; have HQ3 := Lib.hid hB3; have HB3 := Lib.hid hb3; clear hB3 hb3))
      go_roundw
      case rel => exact ⟨rd, D2, by rw [ht2.out], HQ2, HQ3, HB3⟩
      case measure => exact HSZ.out
set_option maxRecDepth 100000 in
theorem take_any (l : List UInt8) (hl : l.length ≤ 100000) (w : World) (hE : EV w) : Calls Tryd.prog 62 #[.string (bsB l)] w fun e w' => e = .returned (.string (bsB (takeL l))) ∧ Below w.heap.size w w' := by
  have HR := Lib.hid (repTake l hl w hE)
  generalize bsB l = t at *
  generalize bsB (takeL l) = u at *
  go_enter Tryd.func62, Tryd.ntmps62
  go_wp2_with (go_at_call 80; (with_reducible refine (HR.out).mono ?_); rintro e w1 ⟨rfl, hb⟩; have HB1 := Lib.hid hb; clear hb)
  go_ret
  exact ⟨rfl, HB1.out⟩
/-- What Strict answers. -/
def stV (l : List UInt8) : Value := if strictL l then .tuple #[.string (bsB (takeL l)), .bool true] else .tuple #[.string ⟨#[]⟩, .bool false]
theorem strict_at (l : List UInt8) (k : Nat) (h : k < l.length) : strictL (l.drop k) = ((l[k]'h != 37 || (pct1 (l.drop k)).isSome) && strictL (l.drop (k + 1))) := by
  rw [List.drop_eq_getElem_cons h]
  rfl
end Go.Proofs.YtkkhlmilcdlfoaaDoor
