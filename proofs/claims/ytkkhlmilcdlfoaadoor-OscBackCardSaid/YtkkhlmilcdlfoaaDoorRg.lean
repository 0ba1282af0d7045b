/- The walks of escaped, Unescape, saying. -/
import Derived.Test.YtkkhlmilcdlfoaaDoorRf
import Derived.Test.YtkkhlmilcdlfoaaDoorRe
namespace Go.Proofs.YtkkhlmilcdlfoaaDoor
open Go.RowKit Go.Shelf

theorem hp_bb (c : UInt8) (r : List UInt8) : Lib.hasPrefix (c :: r) [92, 92] = decide (c = 92 ∧ r.head? = some 92) := by
  show List.isPrefixOf [92, 92] (c :: r) = _
  cases r with
  | nil => simp [List.isPrefixOf]
  | cons d r' =>
    by_cases hc : c = 92
    · by_cases hd : d = 92
      · subst hc hd; simp [List.isPrefixOf]
      · subst hc; simp [List.isPrefixOf, hd, Ne.symm hd]
    · simp [List.isPrefixOf, hc, Ne.symm hc]
set_option maxRecDepth 100000 in
set_option maxHeartbeats 2000000 in
theorem escaped_any (c : UInt8) (r : List UInt8) (hl : (c :: r).length ≤ 1000000) (w : World) (hE : EV w) :
    Calls Tryd.prog 35 #[.string (bsB (c :: r))] w fun e w' => e = .returned (.tuple #[.int .u8 (esc1 c r).1.toNat, .int .i64 (esc1 c r).2]) ∧ Below w.heap.size w w' := by
  have HP : Hid (Calls Tryd.prog 51 #[.string (bsB (c :: r)), .string ⟨#[92, 92]⟩] w fun e w' => e = .returned (.bool (decide (c = 92 ∧ r.head? = some 92))) ∧ w' = w) := Lib.hid (by
    have h := Tryd.strings_HasPrefix (bsB (c :: r)) ⟨#[92, 92]⟩ w
    rwa [show Lib.hasPrefix (bsB (c :: r)).data.toList (ByteArray.mk #[92, 92]).data.toList = decide (c = 92 ∧ r.head? = some 92) from hp_bb c r] at h)
  have j0 := idx0_bs c r
  have hsz : ((bsB (c :: r)).size : Int) = r.length + 1 := by rw [bsB_size]; simp
  by_cases h1 : c = 92 ∧ r.head? = some 92
  · obtain ⟨rfl, h1⟩ := h1
    rw [decide_eq_true ⟨rfl, h1⟩] at HP
    obtain ⟨r', rfl⟩ : ∃ r', r = 92 :: r' := by
      cases r with
      | nil => simp at h1
      | cons d r' => exact ⟨r', by rw [show d = 92 by simpa using h1]⟩
    rw [esc1_bb]
    clear hl hE h1
    generalize bsB (92 :: 92 :: r') = t at *
    go_enter Tryd.func35, Tryd.ntmps35
    go_wp2_with (go_at_call 51; (with_reducible refine (HP.out).mono ?_); rintro e w1 ⟨rfl, rfl⟩)
    go_ret2
    exact ⟨rfl, Below.refl _ _⟩
  rw [decide_eq_false h1] at HP
  have hx2 : (bsB (c :: r)).extract 0 2 = bsB ((c :: r).take 2) := by rw [bs_extract]; rfl
  by_cases h4 : r.length < 3
  · have he : esc1 c r = (c, 1) := by
      by_cases hc : c = 92
      · subst hc
        exact esc1_other (fun h => h1 ⟨rfl, h⟩) (fun h => by omega)
      · exact esc1_ne hc r
    rw [he]
    show Calls _ _ _ _ fun e w' => e = .returned (.tuple #[.int .u8 c.toNat, .int .i64 1]) ∧ _
    clear hE h1 he
    generalize bsB ((c :: r).take 2) = u at *
    generalize bsB (c :: r) = t at *
    generalize c.toNat = cn at *
    generalize r.length = rn at *
    go_enter Tryd.func35, Tryd.ntmps35
    go_wp2_with (go_at_call 51; (with_reducible refine (HP.out).mono ?_); rintro e w1 ⟨rfl, rfl⟩)
    go_ret2
    exact ⟨rfl, Below.refl _ _⟩
  by_cases h5 : c = 92 ∧ r.head? = some 120
  · obtain ⟨rfl, h5⟩ := h5
    obtain ⟨a, b, r', rfl⟩ : ∃ a b r', r = 120 :: a :: b :: r' := by
      match r, h4, h5 with
      | [], h4, _ => exact absurd (by simp) h4
      | [_], h4, _ => exact absurd (by simp) h4
      | [_, _], h4, _ => exact absurd (by simp) h4
      | d :: a :: b :: r', _, h5 => exact ⟨a, b, r', by rw [show d = 120 by simpa using h5]⟩
    have e2 : (bsB ((92 :: 120 :: a :: b :: r').take 2)).toList = [92, 120] := bs_toList _
    have hx4 : (bsB (92 :: 120 :: a :: b :: r')).extract 2 4 = bsB [a, b] := by rw [bs_extract]; rfl
    have h4i : (4 : Int) ≤ (bsB (92 :: 120 :: a :: b :: r')).size := by rw [bsB_size]; simp; omega
    change ∀ W, (Instr.index 9 (.string (bsB (92 :: 120 :: a :: b :: r'))) (.int .i64 0)).run Tryd.prog W = .ok (.int .u8 92) W at j0
    rw [esc1_x]
    cases hq : hex2 a b with
    | some x =>
      have HU := Lib.hid (parseUint_ok [a, b] rfl x.toNat (by rw [hexN_two, hq]; rfl) w)
      have hx8 : x.toNat < 256 := x.toNat_lt
      show Calls _ _ _ _ fun e w' => e = .returned (.tuple #[.int .u8 x.toNat, .int .i64 4]) ∧ _
      clear hE h1 hq hl h4 h5 hsz
      generalize bsB ((92 :: 120 :: a :: b :: r').take 2) = u at *
      generalize bsB (92 :: 120 :: a :: b :: r') = t at *
      generalize bsB [a, b] = v at *
      generalize x.toNat = xn at *
      go_enter Tryd.func35, Tryd.ntmps35
      go_wp2_with (first
        | (go_at_call 51; (with_reducible refine (HP.out).mono ?_); rintro e w1 ⟨rfl, rfl⟩)
        | (go_at_call 52; (with_reducible refine (HU.out).mono ?_); rintro e w2 ⟨rfl, hb⟩; have HB := Lib.hid hb; clear hb))
      go_ret2
      exact ⟨rfl, HB.out⟩
    | none =>
      have HU := Lib.hid (parseUint_bad [a, b] rfl (by rw [hexN_two, hq]; rfl) w hE)
      show Calls _ _ _ _ fun e w' => e = .returned (.tuple #[.int .u8 92, .int .i64 1]) ∧ _
      clear hE h1 hq hl h4 h5 hsz
      generalize bsB ((92 :: 120 :: a :: b :: r').take 2) = u at *
      generalize bsB (92 :: 120 :: a :: b :: r') = t at *
      generalize bsB [a, b] = v at *
      go_enter Tryd.func35, Tryd.ntmps35
      go_wp2_with (first
        | (go_at_call 51; (with_reducible refine (HP.out).mono ?_); rintro e w1 ⟨rfl, rfl⟩)
        | (go_at_call 52; (with_reducible refine (HU.out).mono ?_); rintro e w2 ⟨⟨t1, p1, rfl⟩, hb⟩; have HB := Lib.hid hb; clear hb))
      go_ret2
      exact ⟨rfl, HB.out⟩
  · have he : esc1 c r = (c, 1) := by
      by_cases hc : c = 92
      · subst hc
        exact esc1_other (fun h => h1 ⟨rfl, h⟩) (fun h => h5 ⟨rfl, h.1⟩)
      · exact esc1_ne hc r
    have e2 : ((bsB ((c :: r).take 2)).toList == [92, 120]) = false := by
      rw [bs_toList]
      refine beq_false_of_ne fun e => h5 ?_
      cases r with
      | nil => simp at e
      | cons d r' =>
        have : c = 92 ∧ d = 120 := by simpa using e
        exact ⟨this.1, by rw [this.2]; rfl⟩
    have h4i : (4 : Int) ≤ (bsB (c :: r)).size := by rw [hsz]; omega
    rw [he]
    show Calls _ _ _ _ fun e w' => e = .returned (.tuple #[.int .u8 c.toNat, .int .i64 1]) ∧ _
    clear hE h1 he h5 hl h4 hsz
    generalize bsB ((c :: r).take 2) = u at *
    generalize bsB (c :: r) = t at *
    generalize c.toNat = cn at *
    go_enter Tryd.func35, Tryd.ntmps35
    go_wp2_with (go_at_call 51; (with_reducible refine (HP.out).mono ?_); rintro e w1 ⟨rfl, rfl⟩)
    go_ret2
    exact ⟨rfl, Below.refl _ _⟩
set_option maxRecDepth 100000 in
set_option maxHeartbeats 4000000 in
theorem unescape_any (l : List UInt8) (hl : l.length ≤ 100000) (w : World) (hE : EV w) :
    Calls Tryd.prog 16 #[.string (bsB l)] w fun e w' => e = .returned (.string (bsB (unescL l))) ∧ Below w.heap.size w w' := by
  have HE := Lib.hid hE
  obtain ⟨res, hres⟩ : ∃ res, res = bsB (unescL l) := ⟨_, rfl⟩
  rw [← hres]
  have HR := Lib.hid hres
  clear hres
  have hbw : Below w.heap.size w (w.alloc (.cells #[.pointer none, .slice none 0 0] 48)) := belA (Below.refl _ _) _
  have HB0 := Lib.hid hbw
  have HK0 : Hid (Lib.IsBuilder 48 5 w.heap.size w.heap.size (Lib.byteCells []) (w.alloc (.cells #[.pointer none, .slice none 0 0] 48))) := Lib.hid (Lib.fresh_isBuilder _ _ w)
  have HQ0 : Hid ([] ++ unescL l = unescL l ∧ l.length ≤ 100000 ∧ ([] : List UInt8).length + l.length ≤ 100000) := Lib.hid ⟨rfl, hl, by simpa using hl⟩
  clear hE hbw hl
  go_enter Tryd.func16, Tryd.ntmps16
  go_wp2
  go_loopw [0] (fun q wr => ∃ rest D : List UInt8, q = .string (bsB rest) ∧ Hid (D ++ unescL rest = unescL l ∧ rest.length ≤ 100000 ∧ D.length + rest.length ≤ 100000) ∧ Hid (Lib.IsBuilder 48 5 w.heap.size w.heap.size (Lib.byteCells D) wr) ∧ Hid (Below w.heap.size w wr)) (fun q _ => strN q)
  case atStart => exact ⟨l, [], rfl, HQ0, HK0, HB0⟩
  case round =>
    obtain ⟨rest, D, rfl, HQ, HK, HB⟩ := hrel
    cases rest with
    | nil =>
      have he : (bsB []).toList.isEmpty = true := by rw [bs_toList]; rfl
      have hst : Hid (Calls Tryd.prog 34 #[.pointer (some ⟨w.heap.size, 0, none⟩)] wr fun e w' => e = .returned (.string res) ∧ Below w.heap.size w w') := Lib.hid (by
        have h2 : D = unescL l := by rw [← HQ.out.1, unescL_nil, List.append_nil]
        rw [HR.out, ← h2]
        exact (Tryd.Builder_String_any w.heap.size w.heap.size D wr HK.out HB.out.size).mono fun e w' ⟨h1, h3⟩ => ⟨h1, HB.out.trans h3⟩)
      clear HQ HK
      generalize bsB [] = t0 at *
      go_wp2_with (go_at_call 34; (with_reducible refine (hst.out).mono ?_); rintro e w2 ⟨rfl, hb2⟩; have HB2 := Lib.hid hb2; clear hb2)
      go_ret
      exact ⟨rfl, HB2.out⟩
    | cons c r =>
      have he : (bsB (c :: r)).toList.isEmpty = false := by rw [bs_toList]; rfl
      obtain ⟨hq1, hq2, hq3⟩ := HQ.out
      have HF := Lib.hid (escaped_any c r (by omega) wr (HE.out.past HB.out))
      have hcl := unescL_cons c r
      obtain ⟨hn1, hn2⟩ := esc1_len c r
      have hxt : (bsB (c :: r)).extract ((esc1 c r).2) (bsB (c :: r)).size = bsB ((c :: r).drop (esc1 c r).2) := by
        rw [bs_extract, bsB_size, List.take_of_length_le (by simp)]
      have HQ2 : Hid ((D ++ [(esc1 c r).1]) ++ unescL ((c :: r).drop ((esc1 c r).2)) = unescL l ∧ ((c :: r).drop ((esc1 c r).2)).length ≤ 100000 ∧ (D ++ [(esc1 c r).1]).length + ((c :: r).drop ((esc1 c r).2)).length ≤ 100000) := Lib.hid ⟨by rw [List.append_assoc]; rw [hcl] at hq1; exact hq1, by rw [List.length_drop]; omega, by rw [List.length_drop, List.length_append]; simp only [List.length_cons, List.length_nil] at *; omega⟩
      have HWS : Hid (∀ W, Below wr.heap.size wr W → Calls Tryd.prog 33 #[.pointer (some ⟨w.heap.size, 0, none⟩), .int .u8 (esc1 c r).1.toNat] W fun e w' => e = .returned .nilIface ∧ Lib.IsBuilder 48 5 w.heap.size w.heap.size (Lib.byteCells (D ++ [(esc1 c r).1])) w' ∧ Below w.heap.size w w') := Lib.hid fun W hW => by
        have hB := bel0 HB.out hW
        refine (writeByte_any w.heap.size w.heap.size _ (esc1 c r).1 W (IsB.past HK.out hW) (by rw [Lib.byteCells_length]; omega) hB.size).mono fun e w' ⟨he, hb, hw⟩ => ⟨he, .inr ?_, hB.trans hw⟩
        have e : Lib.byteCells (D ++ [(esc1 c r).1]) = Lib.byteCells D ++ [.int .u8 (esc1 c r).1.toNat] := by simp [Lib.byteCells]
        rw [e]; exact hb
      have hsz2 : (bsB ((c :: r).drop (esc1 c r).2)).size < (bsB (c :: r)).size := by rw [bsB_size, bsB_size, List.length_drop, List.length_cons] at *; omega
      have HSZ := Lib.hid hsz2
      have hnn : ((((esc1 c r).2 : Nat) : Int)) ≤ (bsB (c :: r)).size := by rw [bsB_size]; omega
      clear HQ HK hq1 hq2 hq3 hcl hn1 hn2 hsz2
      generalize hrd : (c :: r).drop (esc1 c r).2 = rd at *
      generalize hdt : D ++ [(esc1 c r).1] = D2 at *
      clear hrd hdt
      generalize (esc1 c r).2 = nn at *
      generalize (esc1 c r).1.toNat = xn at *
      generalize ht2 : bsB rd = t2 at *
      replace ht2 := Lib.hid ht2
      generalize bsB (c :: r) = t1 at *
      go_wp2_with (first
        | (go_at_call 35; (with_reducible refine (HF.out).mono ?_); rintro e w2 ⟨rfl, hb2⟩; have HB2 := Lib.hid hb2; clear hb2)
        | (go_at_call 33; (with_reducible refine (HWS.out _ HB2.out).mono ?_); rintro e w3 ⟨rfl, hB3, hb3⟩; have HQ3 := Lib.hid hB3; have HB3 := Lib.hid hb3; clear hB3 hb3))
      go_roundw
      case rel => exact ⟨rd, D2, by rw [ht2.out], HQ2, HQ3, HB3⟩
      case measure => exact HSZ.out
theorem sign_cells {W : World} {D : Nat} {v0 v1 v2 v3 : Value} (h : W.heap[D]? = some (.cells #[v0, v1, v2, v3] 24 (0, 0))) :
    (W.cell? ⟨D, 0, none⟩ = some v0 ∧ W.cell? ⟨D, 1, none⟩ = some v1 ∧ W.cell? ⟨D, 2, none⟩ = some v2 ∧ W.cell? ⟨D, 3, none⟩ = some v3) ∧ (W.frozen? ⟨D, 0, none⟩ = false ∧ W.frozen? ⟨D, 1, none⟩ = false ∧ W.frozen? ⟨D, 2, none⟩ = false ∧ W.frozen? ⟨D, 3, none⟩ = false) :=
  ⟨⟨cell_of_row _ _ 0 _ _ _ h, cell_of_row _ _ 1 _ _ _ h, cell_of_row _ _ 2 _ _ _ h, cell_of_row _ _ 3 _ _ _ h⟩, Lib.frozen_of_heap h 0, Lib.frozen_of_heap h 1, Lib.frozen_of_heap h 2, Lib.frozen_of_heap h 3⟩
/-- The result's box, behind a call. -/
theorem sign_past {w W : World} (hb : Below (w.alloc (.cells #[.int .i64 0, .int .i64 0, .bool false, .string ⟨#[]⟩] 24)).heap.size (w.alloc (.cells #[.int .i64 0, .int .i64 0, .bool false, .string ⟨#[]⟩] 24)) W) : W.heap[w.heap.size]? = some (.cells #[.int .i64 0, .int .i64 0, .bool false, .string ⟨#[]⟩] 24 (0, 0)) :=
  (hb.block _ (by simp)).trans (heap_alloc_new w _)
theorem below_sign {B D : Nat} {w w1 : World} (h : Below B w w1) (hD : B ≤ D) (v0 v1 v2 v3 : Value) : Below B w ((((w1.setCell ⟨D, 0, none⟩ v0).setCell ⟨D, 1, none⟩ v1).setCell ⟨D, 2, none⟩ v2).setCell ⟨D, 3, none⟩ v3) :=
  (((h.setCell (p := ⟨D, 0, none⟩) hD _).setCell (p := ⟨D, 1, none⟩) hD _).setCell (p := ⟨D, 2, none⟩) hD _).setCell (p := ⟨D, 3, none⟩) hD _
/-- A sign as a value. -/
def sgV (k z : Int) (h : Bool) (t : ByteArray) : Value := .agg #[.int .i64 k, .int .i64 z, .bool h, .string t]
def cut256 (l : List UInt8) : List UInt8 := l.take 256
set_option maxRecDepth 100000 in
set_option maxHeartbeats 2000000 in
theorem saying_any (k : Int) (l : List UInt8) (hl : l.length ≤ 1000000) (w : World) : Calls Tryd.prog 46 #[.int .i64 k, .string (bsB l)] w fun e w' => e = .returned (sgV k 0 false (bsB (cut256 l))) ∧ Below w.heap.size w w' := by
  have hbw : Below w.heap.size w (w.alloc (.cells #[.int .i64 0, .int .i64 0, .bool false, .string ⟨#[]⟩] 24)) := belA (Below.refl _ _) _
  have HB0 := Lib.hid hbw
  have HC : Hid (∀ W, Calls Tryd.prog 63 #[.string (bsB (cut256 l))] W fun e w' => e = .returned (.string (bsB (cut256 l))) ∧ Below W.heap.size W w') := Lib.hid fun W => by
    have h := Tryd.stringslite_Clone (bsB (cut256 l)) W (by rw [bsB_size]; unfold cut256; rw [List.length_take]; omega)
    have H := Lib.hid h
    clear h
    generalize bsB (cut256 l) = t at *
    go_enter Tryd.func63, Tryd.ntmps63
    go_wp2_with (go_at_call 83; (with_reducible refine (H.out).mono ?_); rintro e w1 ⟨rfl, hb⟩; have HB := Lib.hid hb; clear hb)
    go_ret
    exact ⟨rfl, HB.out⟩
  unfold sgV
  obtain ⟨m, hm1, hm2, hm3⟩ : ∃ m : Nat, min ((bsB l).size : Int) 256 = m ∧ m ≤ (bsB l).size ∧ (bsB l).extract 0 m = bsB (cut256 l) := by
    refine ⟨min l.length 256, ?_, ?_, ?_⟩
    · rw [bsB_size]; omega
    · rw [bsB_size]; omega
    · rw [bs_extract]
      unfold cut256
      by_cases h : l.length ≤ 256
      · rw [Nat.min_eq_left h, List.take_of_length_le h]; simp
      · rw [Nat.min_eq_right (by omega)]; rfl
  have hm4 : (m : Int) ≤ (bsB l).size := by omega
  clear hl hbw hm2
  generalize bsB (cut256 l) = u at *
  generalize bsB l = t at *
  go_enter Tryd.func46, Tryd.ntmps46
  go_wp2_with (go_at_call 63; (with_reducible refine (HC.out _).mono ?_); rintro e w1 ⟨rfl, hb⟩; have HB := Lib.hid (bel0 HB0.out hb); obtain ⟨⟨c0, c1, c2, c3⟩, f0, f1, f2, f3⟩ := sign_cells (sign_past hb); clear hb)
  exact bodyPost_ret (v := .agg #[.int .i64 k, .int .i64 0, .bool false, .string u]) (by simp [results, Tryd.results46, go_sem, *]) rfl ⟨rfl, below_sign HB.out (Nat.le_refl _) _ _ _ _⟩
end Go.Proofs.YtkkhlmilcdlfoaaDoor
