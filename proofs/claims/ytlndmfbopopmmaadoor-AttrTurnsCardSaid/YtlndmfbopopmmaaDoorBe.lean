/- The walk of the document's Turn. -/
import Derived.Test.YtlndmfbopopmmaaDoorBd
import Derived.Test.YtlndmfbopopmmaaDoorAm
import Derived.Test.YtlndmfbopopmmaaDoorBz
namespace Go.Proofs.YtlndmfbopopmmaaDoor
open Go.RowKit

theorem turnP_at {L : List (List Int)} {a x x' : AT} {g : List Int} {t : List (List Int)} {i d : Nat} (h : turnP a L = turnP x (L.drop i)) (hd : L.drop i = g :: t) (hs : stepP x g t = (x', d)) : turnP a L = turnP x' (L.drop (i + 1 + d)) := by
  rw [h, hd, turnP_cons, hs]
  have e : L.drop (i + 1 + d) = t.drop d := by
    rw [← List.drop_drop, ← List.drop_drop, hd]
    rfl
  rw [e]
theorem turnP_end {L : List (List Int)} {a x : AT} {i : Nat} (h : turnP a L = turnP x (L.drop i)) (hi : L.length ≤ i) : turnP a L = x := by
  rw [h, List.drop_eq_nil_of_le hi, turnP]
theorem drop_at {L : List (List Int)} {i : Nat} (hi : i < L.length) : L.drop i = L[i]?.getD [] :: L.drop (i + 1) := by
  rw [List.drop_eq_getElem_cons hi, List.getElem?_eq_getElem hi]; rfl
theorem drop_next {L t : List (List Int)} {g : List Int} {i : Nat} (h : L.drop i = g :: t) (k : Nat) : L.drop (i + 1 + k) = t.drop k := by
  rw [← List.drop_drop, ← List.drop_drop, h]
  rfl
theorem drop_from {L t : List (List Int)} {g : List Int} {i : Nat} (h : L.drop i = g :: t) (d : Nat) : L.drop (i + d) = (g :: t).drop d := by
  rw [← List.drop_drop, h]
theorem ext_done (g : List Int) (t : List (List Int)) : 1 ≤ (extP g t).2.2 ∧ (extP g t).2.2 ≤ 5 := by
  have h1 : 1 ≤ 1 ∧ 1 ≤ 5 := by omega
  have h3 : 1 ≤ 3 ∧ 3 ≤ 5 := by omega
  have h5 : 1 ≤ 5 ∧ 5 ≤ 5 := by omega
  have h2 : 1 ≤ 2 ∧ 2 ≤ 5 := by omega
  unfold extP
  split
  · split
    · exact h1
    · split <;> exact h1
  · split
    · exact h3
    · split
      · exact h5
      · exact h2
theorem flagN_plain {g : List Int} {v : Int} (hv : hd0 g = v) (h4 : v ≠ 4) (h6 : v ≠ 6) : flagN g = v := by
  unfold flagN flag1 flag2
  rw [hv, if_neg h6, if_neg h6, if_neg h4]
  split <;> rfl
theorem flagN_six {g : List Int} (hv : hd0 g = 6) : flagN g = 5 := by
  unfold flagN flag1 flag2
  rw [hv]
  split <;> rfl
theorem flagN_four {g : List Int} (hv : hd0 g = 4) : flagN g = if g.length = 1 then 4 else if g[1]?.getD 0 = 0 then 24 else if g[1]?.getD 0 = 2 then 21 else 4 := by
  unfold flagN flag1 flag2
  rw [hv]
  split <;> rfl
theorem turn_on {f v : Int} {k : Nat} (hf : okF f = true) (j : Nat) (hj : j < 18) (hv : v = rowN j) (hk : k < 10) (hon : rowOn j = ((2 ^ k : Nat) : Int)) (hoff : rowOff j = 0) : turnZ f v = withZ f ((2 ^ k : Nat) : Int) true := by
  obtain ⟨h0, h1⟩ := okF_range hf
  rw [turnZ_in f v j hj hv, hon, hoff]
  exact (fin_all (P := fun f => withZ f ((2 ^ k : Nat) : Int) true = bits .or .i64 (bits .andNot .i64 f 0) ((2 ^ k : Nat) : Int)) (fun n => (with_turn n ⟨k, hk⟩).1) f h0 h1).symm
theorem turn_off {f v : Int} {k : Nat} (hf : okF f = true) (j : Nat) (hj : j < 18) (hv : v = rowN j) (hk : k < 10) (hon : rowOn j = 0) (hoff : rowOff j = ((2 ^ k : Nat) : Int)) : turnZ f v = withZ f ((2 ^ k : Nat) : Int) false := by
  obtain ⟨h0, h1⟩ := okF_range hf
  rw [turnZ_in f v j hj hv, hon, hoff]
  exact (fin_all (P := fun f => withZ f ((2 ^ k : Nat) : Int) false = bits .or .i64 (bits .andNot .i64 f ((2 ^ k : Nat) : Int)) 0) (fun n => (with_turn n ⟨k, hk⟩).2) f h0 h1).symm
theorem turn_two {f : Int} (hf : okF f = true) : turnZ f 4 = withZ (withZ f 256 false) 8 true ∧ turnZ f 21 = withZ (withZ f 256 true) 8 false ∧ turnZ f 24 = withZ (withZ f 256 false) 8 false ∧ turnZ f 21 = withZ (withZ f 8 false) 256 true ∧ turnZ f 24 = withZ (withZ f 8 false) 256 false ∧ turnZ f 22 = withZ (withZ f 1 false) 2 false := by
  obtain ⟨h0, h1⟩ := okF_range hf
  rw [turnZ_in f 4 3 (by decide) rfl, turnZ_in f 21 8 (by decide) rfl, turnZ_in f 24 11 (by decide) rfl, turnZ_in f 22 9 (by decide) rfl]
  obtain ⟨a, b, c, d, e, h⟩ := fin_all (P := fun f => withZ (withZ f 256 false) 8 true = bits .or .i64 (bits .andNot .i64 f 256) 8 ∧ withZ (withZ f 256 true) 8 false = bits .or .i64 (bits .andNot .i64 f 8) 256 ∧ withZ (withZ f 256 false) 8 false = bits .or .i64 (bits .andNot .i64 f 264) 0 ∧ withZ (withZ f 8 false) 256 true = bits .or .i64 (bits .andNot .i64 f 8) 256 ∧ withZ (withZ f 8 false) 256 false = bits .or .i64 (bits .andNot .i64 f 264) 0 ∧ withZ (withZ f 1 false) 2 false = bits .or .i64 (bits .andNot .i64 f 3) 0) with_two f h0 h1
  exact ⟨a.symm, b.symm, c.symm, d.symm, e.symm, h.symm⟩
/-- With, whose flags are right. -/
theorem with_call (f : Int) (k : Nat) (hk : k < 10) (b : Bool) (h0 : 0 ≤ f) (h1 : f < 1024) (w : World) : Calls Tryd.prog 29 #[.int .i64 f, .int .i64 ((2 ^ k : Nat) : Int), .bool b] w fun e w' => e = .returned (.int .i64 (withZ f ((2 ^ k : Nat) : Int) b)) ∧ Below w.heap.size w w' := by
  refine with_any f _ b h0 h1 ?_ ?_ w
  · rcases (by omega : k = 0 ∨ k = 1 ∨ k = 2 ∨ k = 3 ∨ k = 4 ∨ k = 5 ∨ k = 6 ∨ k = 7 ∨ k = 8 ∨ k = 9) with rfl | rfl | rfl | rfl | rfl | rfl | rfl | rfl | rfl | rfl <;> decide
  · rcases (by omega : k = 0 ∨ k = 1 ∨ k = 2 ∨ k = 3 ∨ k = 4 ∨ k = 5 ∨ k = 6 ∨ k = 7 ∨ k = 8 ∨ k = 9) with rfl | rfl | rfl | rfl | rfl | rfl | rfl | rfl | rfl | rfl <;> decide

set_option maxRecDepth 100000 in
set_option maxHeartbeats 40000000 in
theorem refTurn_any (a : AT) (A : Option Addr) (L : List (List Int)) (n c : Nat) (hn : n = L.length) (h63 : n ≤ 1000000) (hcl : ∀ g ∈ L, g ≠ [] ∧ g.length ≤ 8 ∧ ∀ z ∈ g, z ≤ 65535) (hok : okF a.fl = true) (w : World) (hR : RG w w.heap.size A L) :
    Calls Tryd.prog 14 #[a.val, .slice A n c] w fun e w' => e = .returned (turnP a L).val ∧ Below w.heap.size w w' := by
  have HN := Lib.hid hn
  have HCL := Lib.hid hcl
  have HOK0 := Lib.hid hok
  have HR := Lib.hid hR
  have HAB0 := Lib.hid (AB.start w a)
  obtain ⟨fin, hfin⟩ : ∃ fin, turnP a L = fin := ⟨_, rfl⟩
  rw [hfin]
  show Calls Tryd.prog 14 #[.agg #[.int .i64 a.fk, .int .i64 a.fn, .int .i64 a.bk, .int .i64 a.bn, .int .i64 a.fl], .slice A n c] w fun e w' => e = .returned (.agg #[.int .i64 fin.fk, .int .i64 fin.fn, .int .i64 fin.bk, .int .i64 fin.bn, .int .i64 fin.fl]) ∧ Below w.heap.size w w'
  have HFIN := Lib.hid hfin
  have hn6 : (n : Int) ≤ 1000000 := by omega
  clear hR hn hcl hfin hok
  go_enter Tryd.func14, Tryd.ntmps14
  go_wp2
  go_loopw [5] (fun ii wr => ∃ (i : Nat) (x : AT), ii = .int .i64 i ∧ i ≤ n + 10 ∧ Hid (turnP a L = turnP x (L.drop i)) ∧ Hid (okF x.fl = true) ∧ Hid (AB w wr x)) (fun ii _ => n - (intOf ii).toNat)
  case atStart => exact ⟨0, a, rfl, by omega, Lib.hid rfl, HOK0, HAB0⟩
  case round =>
    clear HAB0 HOK0
    obtain ⟨i, x, rfl, hin, HEQ, HOK, HAB⟩ := hrel
    obtain ⟨⟨x0, x1, x2, x3, x4⟩, f0, f1, f2, f3, f4⟩ := HAB.out.cells
    have hi1 : (i : Int) ≤ 1000010 := by omega
    by_cases hlt : i < n
    · have hlti : (i : Int) < n := by omega
      have hil : i < L.length := by have := HN.out; omega
      have HDR := Lib.hid (drop_at hil)
      obtain ⟨b, off, e, hbb, hcx⟩ := HR.out (fun e => by rw [e] at hil; simp at hil)
      subst e
      obtain ⟨Ai, ci, hci, hri, _⟩ := hcx i hil
      have hgc := HCL.out (L[i]?.getD []) (by rw [List.getElem?_eq_getElem hil]; exact List.getElem_mem hil)
      obtain ⟨br, offr, e, hbr, hcr⟩ := hri hgc.1
      subst e
      have HCI : Hid (∀ W, Below w.heap.size w W → W.cell? ⟨b, off + i, none⟩ = some (.slice (some ⟨br, offr, none⟩) (L[i]?.getD []).length ci)) := Lib.hid fun W hW => (hW.cell (p := ⟨b, off + i, none⟩) hbb).trans hci
      have HCR : Hid (∀ W k, Below w.heap.size w W → k < (L[i]?.getD []).length → W.cell? ⟨br, offr + k, none⟩ = some (.int .i64 ((L[i]?.getD [])[k]?.getD 0))) := Lib.hid fun W k hW hk => (hW.cell (p := ⟨br, offr + k, none⟩) hbr).trans (hcr k hk)
      have HAT : Hid (∀ W, Below w.heap.size w W → Calls Tryd.prog 27 #[.slice (some ⟨b, off, none⟩) n c, .int .i64 i] W fun e w' => e = .returned (.tuple #[.int .i64 (hd0 (L[i]?.getD [])), .bool true]) ∧ W = w') := Lib.hid fun W hW => by
        have := at_any (some ⟨b, off, none⟩) L n c i i rfl HN.out (fun g hg => (HCL.out g hg).1) W ((HR.out.below hW).more hW.size)
        rw [decide_eq_true hlt] at this
        exact this
      have HEX : Hid (∀ W, Below w.heap.size w W → Calls Tryd.prog 28 #[.slice (some ⟨b, off, none⟩) n c, .int .i64 i] W (ExtPost (L[i]?.getD []) (L.drop (i + 1)) i W)) := Lib.hid fun W hW => ext_any (some ⟨b, off, none⟩) L n c i HN.out hlt h63 HCL.out W ((HR.out.below hW).more hW.size)
      have HWF : Hid (∀ f (k : Nat) (b : Bool) W, k < 10 → 0 ≤ f → f < 1024 → Calls Tryd.prog 29 #[.int .i64 f, .int .i64 ((2 ^ k : Nat) : Int), .bool b] W fun e w' => e = .returned (.int .i64 (withZ f ((2 ^ k : Nat) : Int) b)) ∧ Below W.heap.size W w') := Lib.hid fun f k b W hk h0 h1 => with_call f k hk b h0 h1 W
      have hci2 := HCI.out _ HAB.out.below
      have hpos := List.length_pos_iff.2 hgc.1
      have hv0 : 0 ≤ hd0 (L[i]?.getD []) := by unfold hd0 most0Z; split <;> omega
      have hv1 : hd0 (L[i]?.getD []) ≤ 65535 := by
        have hg := hgc.2.2
        have hne := hgc.1
        generalize L[i]?.getD [] = g at *
        cases g with
        | nil => exact absurd rfl hne
        | cons y r =>
          have := hg y (by simp)
          show most0Z y ≤ 65535
          unfold most0Z
          split <;> omega
      clear hcx hci hri hgc hbb hbr hcr HR HCL HN hil
      generalize L[i]?.getD [] = g at *
      generalize L.drop (i + 1) = t at *
      have hwi : IntKind.i64.wrap ((i : Int) + 1) = (i : Int) + 1 := IntWalk.i64_in _ (by omega)
      have HRG := okF_range HOK.out

      by_cases hv : hd0 g = 38
      · as_aux_lemma =>
          have HST : Hid (stepP x g t = (⟨(toldP (x.fk, x.fn) g t).1.1, (toldP (x.fk, x.fn) g t).1.2, x.bk, x.bn, x.fl⟩, (toldP (x.fk, x.fn) g t).2 - 1)) := Lib.hid (by unfold stepP; rw [if_neg (by rw [hv]; decide), if_pos hv])
          have HTE := Lib.hid (told_ext (x.fk, x.fn) g t)
          have HED := ext_done g t
          unfold ExtPost at HEX
          rw [hv] at HAT
          have HNX : Hid (∀ W', AB w W' ⟨(toldP (x.fk, x.fn) g t).1.1, (toldP (x.fk, x.fn) g t).1.2, x.bk, x.bn, x.fl⟩ → turnP a L = turnP ⟨(toldP (x.fk, x.fn) g t).1.1, (toldP (x.fk, x.fn) g t).1.2, x.bk, x.bn, x.fl⟩ (L.drop (i + (extP g t).2.2)) ∧ AB w W' ⟨(toldP (x.fk, x.fn) g t).1.1, (toldP (x.fk, x.fn) g t).1.2, x.bk, x.bn, x.fl⟩) := Lib.hid fun W' h => ⟨by
            have h1 := turnP_at HEQ.out HDR.out HST.out
            have h2 := HTE.out.2
            rw [h1, drop_next HDR.out, drop_from HDR.out]
            exact congrArg (turnP _) h2, h⟩
          have HC1 := Lib.hid HTE.out.1
          generalize (toldP (x.fk, x.fn) g t).1.1 = ck at *
          generalize (toldP (x.fk, x.fn) g t).1.2 = cn at *
          clear HTE HST HCR HWF hv0 hv1 hv
          generalize (extP g t).1.1 = ek at *
          generalize (extP g t).1.2 = en at *
          generalize (extP g t).2.2 = dd at *
          generalize (extP g t).2.1 = ok at *
          obtain ⟨hed1, hed2⟩ := HED
          cases ok with
          | true =>
            have HK : Hid (ck = ek ∧ cn = en) := Lib.hid (by have := HC1.out; simpa using this)
            go_wp2_with (first | (go_at_call 27; (with_reducible refine (HAT.out _ HAB.out.below).mono ?_); rintro e w2 ⟨rfl, rfl⟩) | (go_at_call 28; (with_reducible refine (HEX.out _ HAB.out.below).mono ?_); rintro e w3 ⟨rfl, hb3⟩; have HAB3 := Lib.hid (HAB.out.past hb3); have HAB4 := Lib.hid (HAB3.out.past (belA (Below.refl w3.heap.size w3) (.cells #[.int .i64 ek, .int .i64 en] 23))); obtain ⟨⟨x0, x1, x2, x3, x4⟩, f0, f1, f2, f3, f4⟩ := HAB4.out.cells; clear hb3))
            go_roundw
            case rel => exact ⟨i + dd, _, by go_num, by omega, Lib.hid (HNX.out _ (by rw [HK.out.1, HK.out.2]; exact HAB4.out.fore _ _)).1, HOK, Lib.hid (HNX.out _ (by rw [HK.out.1, HK.out.2]; exact HAB4.out.fore _ _)).2⟩
            case measure => simp [intOf]; omega
          | false =>
            have HK : Hid (ck = x.fk ∧ cn = x.fn) := Lib.hid (by have := HC1.out; simpa using this)
            go_wp2_with (first | (go_at_call 27; (with_reducible refine (HAT.out _ HAB.out.below).mono ?_); rintro e w2 ⟨rfl, rfl⟩) | (go_at_call 28; (with_reducible refine (HEX.out _ HAB.out.below).mono ?_); rintro e w3 ⟨rfl, hb3⟩; have HAB3 := Lib.hid (HAB.out.past hb3); have HAB4 := Lib.hid (HAB3.out.past (belA (Below.refl w3.heap.size w3) (.cells #[.int .i64 ek, .int .i64 en] 23))); obtain ⟨⟨x0, x1, x2, x3, x4⟩, f0, f1, f2, f3, f4⟩ := HAB4.out.cells; clear hb3))
            go_roundw
            case rel => exact ⟨i + dd, _, by go_num, by omega, Lib.hid (HNX.out _ (by rw [HK.out.1, HK.out.2]; exact HAB4.out)).1, HOK, Lib.hid (HNX.out _ (by rw [HK.out.1, HK.out.2]; exact HAB4.out)).2⟩
            case measure => simp [intOf]; omega
      have hv38 := hv
      clear hv
      by_cases hv : hd0 g = 48
      · as_aux_lemma =>
          have HST : Hid (stepP x g t = (⟨x.fk, x.fn, (toldP (x.bk, x.bn) g t).1.1, (toldP (x.bk, x.bn) g t).1.2, x.fl⟩, (toldP (x.bk, x.bn) g t).2 - 1)) := Lib.hid (by unfold stepP; rw [if_neg (by rw [hv]; decide), if_neg (by rw [hv]; decide), if_pos hv])
          have HTE := Lib.hid (told_ext (x.bk, x.bn) g t)
          have HED := ext_done g t
          unfold ExtPost at HEX
          rw [hv] at HAT
          have HNX : Hid (∀ W', AB w W' ⟨x.fk, x.fn, (toldP (x.bk, x.bn) g t).1.1, (toldP (x.bk, x.bn) g t).1.2, x.fl⟩ → turnP a L = turnP ⟨x.fk, x.fn, (toldP (x.bk, x.bn) g t).1.1, (toldP (x.bk, x.bn) g t).1.2, x.fl⟩ (L.drop (i + (extP g t).2.2)) ∧ AB w W' ⟨x.fk, x.fn, (toldP (x.bk, x.bn) g t).1.1, (toldP (x.bk, x.bn) g t).1.2, x.fl⟩) := Lib.hid fun W' h => ⟨by
            have h1 := turnP_at HEQ.out HDR.out HST.out
            have h2 := HTE.out.2
            rw [h1, drop_next HDR.out, drop_from HDR.out]
            exact congrArg (turnP _) h2, h⟩
          have HC1 := Lib.hid HTE.out.1
          generalize (toldP (x.bk, x.bn) g t).1.1 = ck at *
          generalize (toldP (x.bk, x.bn) g t).1.2 = cn at *
          clear HTE HST HCR HWF hv0 hv1 hv
          generalize (extP g t).1.1 = ek at *
          generalize (extP g t).1.2 = en at *
          generalize (extP g t).2.2 = dd at *
          generalize (extP g t).2.1 = ok at *
          obtain ⟨hed1, hed2⟩ := HED
          cases ok with
          | true =>
            have HK : Hid (ck = ek ∧ cn = en) := Lib.hid (by have := HC1.out; simpa using this)
            go_wp2_with (first | (go_at_call 27; (with_reducible refine (HAT.out _ HAB.out.below).mono ?_); rintro e w2 ⟨rfl, rfl⟩) | (go_at_call 28; (with_reducible refine (HEX.out _ HAB.out.below).mono ?_); rintro e w3 ⟨rfl, hb3⟩; have HAB3 := Lib.hid (HAB.out.past hb3); have HAB4 := Lib.hid (HAB3.out.past (belA (Below.refl w3.heap.size w3) (.cells #[.int .i64 ek, .int .i64 en] 23))); obtain ⟨⟨x0, x1, x2, x3, x4⟩, f0, f1, f2, f3, f4⟩ := HAB4.out.cells; clear hb3))
            go_roundw
            case rel => exact ⟨i + dd, _, by go_num, by omega, Lib.hid (HNX.out _ (by rw [HK.out.1, HK.out.2]; exact HAB4.out.back _ _)).1, HOK, Lib.hid (HNX.out _ (by rw [HK.out.1, HK.out.2]; exact HAB4.out.back _ _)).2⟩
            case measure => simp [intOf]; omega
          | false =>
            have HK : Hid (ck = x.bk ∧ cn = x.bn) := Lib.hid (by have := HC1.out; simpa using this)
            go_wp2_with (first | (go_at_call 27; (with_reducible refine (HAT.out _ HAB.out.below).mono ?_); rintro e w2 ⟨rfl, rfl⟩) | (go_at_call 28; (with_reducible refine (HEX.out _ HAB.out.below).mono ?_); rintro e w3 ⟨rfl, hb3⟩; have HAB3 := Lib.hid (HAB.out.past hb3); have HAB4 := Lib.hid (HAB3.out.past (belA (Below.refl w3.heap.size w3) (.cells #[.int .i64 ek, .int .i64 en] 23))); obtain ⟨⟨x0, x1, x2, x3, x4⟩, f0, f1, f2, f3, f4⟩ := HAB4.out.cells; clear hb3))
            go_roundw
            case rel => exact ⟨i + dd, _, by go_num, by omega, Lib.hid (HNX.out _ (by rw [HK.out.1, HK.out.2]; exact HAB4.out)).1, HOK, Lib.hid (HNX.out _ (by rw [HK.out.1, HK.out.2]; exact HAB4.out)).2⟩
            case measure => simp [intOf]; omega
      have hv48 := hv
      clear hv HEX
      by_cases hv : hd0 g = 0
      · as_aux_lemma =>
          have HST : Hid (stepP x g t = (AT.zero, 0)) := Lib.hid (by unfold stepP; rw [if_pos hv])
          rw [hv] at HAT
          clear HCR hv0 hv1 hv hv38 hv48 HWF
          go_wp2_with (go_at_call 27; (with_reducible refine (HAT.out _ HAB.out.below).mono ?_); rintro e w2 ⟨rfl, rfl⟩)
          go_roundw
          case rel => exact ⟨i + 1, AT.zero, by go_num, by omega, Lib.hid (turnP_at HEQ.out HDR.out HST.out), Lib.hid rfl, Lib.hid HAB.out.clean⟩
          case measure => simp [intOf]; omega
      have hvz := hv
      clear hv
      by_cases hv : hd0 g = 1
      · as_aux_lemma =>
          have HF : Hid (turnZ x.fl (flagN g) = withZ x.fl 1 true) := Lib.hid (by rw [flagN_plain hv (by decide) (by decide)]; exact turn_on (k := 0) HOK.out 0 (by decide) rfl (by decide) rfl rfl)
          have HST := Lib.hid (step_other x g t 1 hv (by decide) (by decide) (by decide))
          have HOK2 := Lib.hid (okF_turn x.fl (flagN g) HOK.out)
          rw [HF.out] at HST HOK2
          have HW1 : Hid (∀ W, Calls Tryd.prog 29 #[.int .i64 x.fl, .int .i64 1, .bool true] W fun e w' => e = .returned (.int .i64 (withZ x.fl 1 true)) ∧ Below W.heap.size W w') := Lib.hid fun W => HWF.out x.fl 0 true W (by decide) HRG.1 HRG.2
          rw [hv] at HAT
          clear HCR hv0 hv1 hv hv38 hv48 hvz HF HWF
          generalize withZ x.fl 1 true = F at *
          go_wp2_with (first | (go_at_call 27; (with_reducible refine (HAT.out _ HAB.out.below).mono ?_); rintro e w2 ⟨rfl, rfl⟩) | (go_at_call 29; (with_reducible refine (HW1.out _).mono ?_); rintro e w3 ⟨rfl, hb3⟩; have HAB3 := Lib.hid (HAB.out.past hb3); obtain ⟨⟨x0, x1, x2, x3, x4⟩, f0, f1, f2, f3, f4⟩ := HAB3.out.cells; clear hb3))
          go_roundw
          case rel => exact ⟨i + 1, ⟨x.fk, x.fn, x.bk, x.bn, F⟩, by go_num, by omega, Lib.hid (turnP_at HEQ.out HDR.out HST.out), Lib.hid HOK2.out, Lib.hid (HAB3.out.flag F)⟩
          case measure => simp [intOf]; omega
      have hn1 := hv
      clear hv
      by_cases hv : hd0 g = 2
      · as_aux_lemma =>
          have HF : Hid (turnZ x.fl (flagN g) = withZ x.fl 2 true) := Lib.hid (by rw [flagN_plain hv (by decide) (by decide)]; exact turn_on (k := 1) HOK.out 1 (by decide) rfl (by decide) rfl rfl)
          have HST := Lib.hid (step_other x g t 2 hv (by decide) (by decide) (by decide))
          have HOK2 := Lib.hid (okF_turn x.fl (flagN g) HOK.out)
          rw [HF.out] at HST HOK2
          have HW1 : Hid (∀ W, Calls Tryd.prog 29 #[.int .i64 x.fl, .int .i64 2, .bool true] W fun e w' => e = .returned (.int .i64 (withZ x.fl 2 true)) ∧ Below W.heap.size W w') := Lib.hid fun W => HWF.out x.fl 1 true W (by decide) HRG.1 HRG.2
          rw [hv] at HAT
          clear HCR hv0 hv1 hv hv38 hv48 hvz HF HWF hn1
          generalize withZ x.fl 2 true = F at *
          go_wp2_with (first | (go_at_call 27; (with_reducible refine (HAT.out _ HAB.out.below).mono ?_); rintro e w2 ⟨rfl, rfl⟩) | (go_at_call 29; (with_reducible refine (HW1.out _).mono ?_); rintro e w3 ⟨rfl, hb3⟩; have HAB3 := Lib.hid (HAB.out.past hb3); obtain ⟨⟨x0, x1, x2, x3, x4⟩, f0, f1, f2, f3, f4⟩ := HAB3.out.cells; clear hb3))
          go_roundw
          case rel => exact ⟨i + 1, ⟨x.fk, x.fn, x.bk, x.bn, F⟩, by go_num, by omega, Lib.hid (turnP_at HEQ.out HDR.out HST.out), Lib.hid HOK2.out, Lib.hid (HAB3.out.flag F)⟩
          case measure => simp [intOf]; omega
      have hn2 := hv
      clear hv
      by_cases hv : hd0 g = 3
      · as_aux_lemma =>
          have HF : Hid (turnZ x.fl (flagN g) = withZ x.fl 4 true) := Lib.hid (by rw [flagN_plain hv (by decide) (by decide)]; exact turn_on (k := 2) HOK.out 2 (by decide) rfl (by decide) rfl rfl)
          have HST := Lib.hid (step_other x g t 3 hv (by decide) (by decide) (by decide))
          have HOK2 := Lib.hid (okF_turn x.fl (flagN g) HOK.out)
          rw [HF.out] at HST HOK2
          have HW1 : Hid (∀ W, Calls Tryd.prog 29 #[.int .i64 x.fl, .int .i64 4, .bool true] W fun e w' => e = .returned (.int .i64 (withZ x.fl 4 true)) ∧ Below W.heap.size W w') := Lib.hid fun W => HWF.out x.fl 2 true W (by decide) HRG.1 HRG.2
          rw [hv] at HAT
          clear HCR hv0 hv1 hv hv38 hv48 hvz HF HWF hn1 hn2
          generalize withZ x.fl 4 true = F at *
          go_wp2_with (first | (go_at_call 27; (with_reducible refine (HAT.out _ HAB.out.below).mono ?_); rintro e w2 ⟨rfl, rfl⟩) | (go_at_call 29; (with_reducible refine (HW1.out _).mono ?_); rintro e w3 ⟨rfl, hb3⟩; have HAB3 := Lib.hid (HAB.out.past hb3); obtain ⟨⟨x0, x1, x2, x3, x4⟩, f0, f1, f2, f3, f4⟩ := HAB3.out.cells; clear hb3))
          go_roundw
          case rel => exact ⟨i + 1, ⟨x.fk, x.fn, x.bk, x.bn, F⟩, by go_num, by omega, Lib.hid (turnP_at HEQ.out HDR.out HST.out), Lib.hid HOK2.out, Lib.hid (HAB3.out.flag F)⟩
          case measure => simp [intOf]; omega
      have hn3 := hv
      clear hv
      by_cases hv : hd0 g = 4
      · by_cases g1 : g.length = 1
        · as_aux_lemma =>
            have HF : Hid (turnZ x.fl (flagN g) = withZ (withZ x.fl 256 false) 8 true) := Lib.hid (by rw [flagN_four hv, if_pos g1]; exact (turn_two HOK.out).1)
            have HST := Lib.hid (step_other x g t 4 hv (by decide) (by decide) (by decide))
            have HOK2 := Lib.hid (okF_turn x.fl (flagN g) HOK.out)
            rw [HF.out] at HST HOK2
            have HW1 : Hid (∀ W, Calls Tryd.prog 29 #[.int .i64 x.fl, .int .i64 256, .bool false] W fun e w' => e = .returned (.int .i64 (withZ x.fl 256 false)) ∧ Below W.heap.size W w') := Lib.hid fun W => HWF.out x.fl 8 false W (by decide) HRG.1 HRG.2
            have HW2 : Hid (∀ W, Calls Tryd.prog 29 #[.int .i64 (withZ x.fl 256 false), .int .i64 8, .bool true] W fun e w' => e = .returned (.int .i64 (withZ (withZ x.fl 256 false) 8 true)) ∧ Below W.heap.size W w') := Lib.hid fun W => HWF.out _ 3 true W (by decide) (with_range x.fl HRG.1 HRG.2 8 (by decide) false).1 (with_range x.fl HRG.1 HRG.2 8 (by decide) false).2
            rw [hv] at HAT
            have hgl : decide ((g.length : Int) > 1) = false := decide_eq_false (by omega)
            have hgl2 : decide (1 < g.length) = false := decide_eq_false (by omega)
            clear g1
            generalize g.length = gl at *
            clear HCR hv0 hv1 hv hv38 hv48 hvz HF HWF hn1 hn2 hn3
            generalize withZ (withZ x.fl 256 false) 8 true = F at *
            generalize withZ x.fl 256 false = F1 at *
            go_wp2_with (first | (go_at_call 27; (with_reducible refine (HAT.out _ HAB.out.below).mono ?_); rintro e w2 ⟨rfl, rfl⟩) | (go_at_call 29; first | ((with_reducible refine (HW1.out _).mono ?_); rintro e w3 ⟨rfl, hb3⟩; have HAB3 := Lib.hid (HAB.out.past hb3); clear hb3) | ((with_reducible refine (HW2.out _).mono ?_); rintro e w4 ⟨rfl, hb4⟩; have HAB4 := Lib.hid (HAB3.out.past hb4); obtain ⟨⟨x0, x1, x2, x3, x4⟩, f0, f1, f2, f3, f4⟩ := HAB4.out.cells; clear hb4)))
            go_roundw
            case rel => exact ⟨i + 1, ⟨x.fk, x.fn, x.bk, x.bn, F⟩, by go_num, by omega, Lib.hid (turnP_at HEQ.out HDR.out HST.out), Lib.hid HOK2.out, Lib.hid (HAB4.out.flag F)⟩
            case measure => simp [intOf]; omega
        have h1g : 1 < g.length := by omega
        have HG1 := HCR.out _ 1 HAB.out.below h1g
        by_cases y0 : g[1]?.getD 0 = 0
        · as_aux_lemma =>
            have HF : Hid (turnZ x.fl (flagN g) = withZ (withZ x.fl 256 false) 8 false) := Lib.hid (by rw [flagN_four hv, if_neg g1, if_pos y0]; exact (turn_two HOK.out).2.2.1)
            have HST := Lib.hid (step_other x g t 4 hv (by decide) (by decide) (by decide))
            have HOK2 := Lib.hid (okF_turn x.fl (flagN g) HOK.out)
            rw [HF.out] at HST HOK2
            have HW1 : Hid (∀ W, Calls Tryd.prog 29 #[.int .i64 x.fl, .int .i64 256, .bool false] W fun e w' => e = .returned (.int .i64 (withZ x.fl 256 false)) ∧ Below W.heap.size W w') := Lib.hid fun W => HWF.out x.fl 8 false W (by decide) HRG.1 HRG.2
            have HW2 : Hid (∀ W, Calls Tryd.prog 29 #[.int .i64 (withZ x.fl 256 false), .int .i64 8, .bool false] W fun e w' => e = .returned (.int .i64 (withZ (withZ x.fl 256 false) 8 false)) ∧ Below W.heap.size W w') := Lib.hid fun W => HWF.out _ 3 false W (by decide) (with_range x.fl HRG.1 HRG.2 8 (by decide) false).1 (with_range x.fl HRG.1 HRG.2 8 (by decide) false).2
            rw [hv] at HAT
            rw [y0] at HG1
            have hgl : (1 : Int) < g.length := by omega
            clear g1 y0 h1g
            generalize g.length = gl at *
            clear HCR hv0 hv1 hv hv38 hv48 hvz HF HWF hn1 hn2 hn3
            generalize withZ (withZ x.fl 256 false) 8 false = F at *
            generalize withZ x.fl 256 false = F1 at *
            go_wp2_with (first | (go_at_call 27; (with_reducible refine (HAT.out _ HAB.out.below).mono ?_); rintro e w2 ⟨rfl, rfl⟩) | (go_at_call 29; first | ((with_reducible refine (HW1.out _).mono ?_); rintro e w3 ⟨rfl, hb3⟩; have HAB3 := Lib.hid (HAB.out.past hb3); clear hb3) | ((with_reducible refine (HW2.out _).mono ?_); rintro e w4 ⟨rfl, hb4⟩; have HAB4 := Lib.hid (HAB3.out.past hb4); obtain ⟨⟨x0, x1, x2, x3, x4⟩, f0, f1, f2, f3, f4⟩ := HAB4.out.cells; clear hb4)))
            go_roundw
            case rel => exact ⟨i + 1, ⟨x.fk, x.fn, x.bk, x.bn, F⟩, by go_num, by omega, Lib.hid (turnP_at HEQ.out HDR.out HST.out), Lib.hid HOK2.out, Lib.hid (HAB4.out.flag F)⟩
            case measure => simp [intOf]; omega
        by_cases y2 : g[1]?.getD 0 = 2
        · as_aux_lemma =>
            have HF : Hid (turnZ x.fl (flagN g) = withZ (withZ x.fl 256 true) 8 false) := Lib.hid (by rw [flagN_four hv, if_neg g1, if_neg y0, if_pos y2]; exact (turn_two HOK.out).2.1)
            have HST := Lib.hid (step_other x g t 4 hv (by decide) (by decide) (by decide))
            have HOK2 := Lib.hid (okF_turn x.fl (flagN g) HOK.out)
            rw [HF.out] at HST HOK2
            have HW1 : Hid (∀ W, Calls Tryd.prog 29 #[.int .i64 x.fl, .int .i64 256, .bool true] W fun e w' => e = .returned (.int .i64 (withZ x.fl 256 true)) ∧ Below W.heap.size W w') := Lib.hid fun W => HWF.out x.fl 8 true W (by decide) HRG.1 HRG.2
            have HW2 : Hid (∀ W, Calls Tryd.prog 29 #[.int .i64 (withZ x.fl 256 true), .int .i64 8, .bool false] W fun e w' => e = .returned (.int .i64 (withZ (withZ x.fl 256 true) 8 false)) ∧ Below W.heap.size W w') := Lib.hid fun W => HWF.out _ 3 false W (by decide) (with_range x.fl HRG.1 HRG.2 8 (by decide) true).1 (with_range x.fl HRG.1 HRG.2 8 (by decide) true).2
            rw [hv] at HAT
            rw [y2] at HG1
            have hgl : (1 : Int) < g.length := by omega
            clear g1 y0 y2 h1g
            generalize g.length = gl at *
            clear HCR hv0 hv1 hv hv38 hv48 hvz HF HWF hn1 hn2 hn3
            generalize withZ (withZ x.fl 256 true) 8 false = F at *
            generalize withZ x.fl 256 true = F1 at *
            go_wp2_with (first | (go_at_call 27; (with_reducible refine (HAT.out _ HAB.out.below).mono ?_); rintro e w2 ⟨rfl, rfl⟩) | (go_at_call 29; first | ((with_reducible refine (HW1.out _).mono ?_); rintro e w3 ⟨rfl, hb3⟩; have HAB3 := Lib.hid (HAB.out.past hb3); clear hb3) | ((with_reducible refine (HW2.out _).mono ?_); rintro e w4 ⟨rfl, hb4⟩; have HAB4 := Lib.hid (HAB3.out.past hb4); obtain ⟨⟨x0, x1, x2, x3, x4⟩, f0, f1, f2, f3, f4⟩ := HAB4.out.cells; clear hb4)))
            go_roundw
            case rel => exact ⟨i + 1, ⟨x.fk, x.fn, x.bk, x.bn, F⟩, by go_num, by omega, Lib.hid (turnP_at HEQ.out HDR.out HST.out), Lib.hid HOK2.out, Lib.hid (HAB4.out.flag F)⟩
            case measure => simp [intOf]; omega
        have HF : Hid (turnZ x.fl (flagN g) = withZ (withZ x.fl 256 false) 8 true) := Lib.hid (by rw [flagN_four hv, if_neg g1, if_neg y0, if_neg y2]; exact (turn_two HOK.out).1)
        have HST := Lib.hid (step_other x g t 4 hv (by decide) (by decide) (by decide))
        have HOK2 := Lib.hid (okF_turn x.fl (flagN g) HOK.out)
        rw [HF.out] at HST HOK2
        have HW1 : Hid (∀ W, Calls Tryd.prog 29 #[.int .i64 x.fl, .int .i64 256, .bool false] W fun e w' => e = .returned (.int .i64 (withZ x.fl 256 false)) ∧ Below W.heap.size W w') := Lib.hid fun W => HWF.out x.fl 8 false W (by decide) HRG.1 HRG.2
        have HW2 : Hid (∀ W, Calls Tryd.prog 29 #[.int .i64 (withZ x.fl 256 false), .int .i64 8, .bool true] W fun e w' => e = .returned (.int .i64 (withZ (withZ x.fl 256 false) 8 true)) ∧ Below W.heap.size W w') := Lib.hid fun W => HWF.out _ 3 true W (by decide) (with_range x.fl HRG.1 HRG.2 8 (by decide) false).1 (with_range x.fl HRG.1 HRG.2 8 (by decide) false).2
        rw [hv] at HAT
        have hgl : (1 : Int) < g.length := by omega
        generalize g[1]?.getD 0 = y at *
        have c0 : (y == 0) = false := by simpa using y0
        have c2 : (y == 2) = false := by simpa using y2
        clear g1 y0 y2 h1g
        generalize g.length = gl at *
        clear HCR hv0 hv1 hv hv38 hv48 hvz HF HWF hn1 hn2 hn3
        generalize withZ (withZ x.fl 256 false) 8 true = F at *
        generalize withZ x.fl 256 false = F1 at *
        go_wp2_with (first | (go_at_call 27; (with_reducible refine (HAT.out _ HAB.out.below).mono ?_); rintro e w2 ⟨rfl, rfl⟩) | (go_at_call 29; first | ((with_reducible refine (HW1.out _).mono ?_); rintro e w3 ⟨rfl, hb3⟩; have HAB3 := Lib.hid (HAB.out.past hb3); clear hb3) | ((with_reducible refine (HW2.out _).mono ?_); rintro e w4 ⟨rfl, hb4⟩; have HAB4 := Lib.hid (HAB3.out.past hb4); obtain ⟨⟨x0, x1, x2, x3, x4⟩, f0, f1, f2, f3, f4⟩ := HAB4.out.cells; clear hb4)))
        go_roundw
        case rel => exact ⟨i + 1, ⟨x.fk, x.fn, x.bk, x.bn, F⟩, by go_num, by omega, Lib.hid (turnP_at HEQ.out HDR.out HST.out), Lib.hid HOK2.out, Lib.hid (HAB4.out.flag F)⟩
        case measure => simp [intOf]; omega
      have hn4 := hv
      clear hv
      by_cases hv : hd0 g = 5
      · as_aux_lemma =>
          have HF : Hid (turnZ x.fl (flagN g) = withZ x.fl 16 true) := Lib.hid (by rw [flagN_plain hv (by decide) (by decide)]; exact turn_on (k := 4) HOK.out 4 (by decide) rfl (by decide) rfl rfl)
          have HST := Lib.hid (step_other x g t 5 hv (by decide) (by decide) (by decide))
          have HOK2 := Lib.hid (okF_turn x.fl (flagN g) HOK.out)
          rw [HF.out] at HST HOK2
          have HW1 : Hid (∀ W, Calls Tryd.prog 29 #[.int .i64 x.fl, .int .i64 16, .bool true] W fun e w' => e = .returned (.int .i64 (withZ x.fl 16 true)) ∧ Below W.heap.size W w') := Lib.hid fun W => HWF.out x.fl 4 true W (by decide) HRG.1 HRG.2
          rw [hv] at HAT
          clear HCR hv0 hv1 hv hv38 hv48 hvz HF HWF hn1 hn2 hn3 hn4
          generalize withZ x.fl 16 true = F at *
          go_wp2_with (first | (go_at_call 27; (with_reducible refine (HAT.out _ HAB.out.below).mono ?_); rintro e w2 ⟨rfl, rfl⟩) | (go_at_call 29; (with_reducible refine (HW1.out _).mono ?_); rintro e w3 ⟨rfl, hb3⟩; have HAB3 := Lib.hid (HAB.out.past hb3); obtain ⟨⟨x0, x1, x2, x3, x4⟩, f0, f1, f2, f3, f4⟩ := HAB3.out.cells; clear hb3))
          go_roundw
          case rel => exact ⟨i + 1, ⟨x.fk, x.fn, x.bk, x.bn, F⟩, by go_num, by omega, Lib.hid (turnP_at HEQ.out HDR.out HST.out), Lib.hid HOK2.out, Lib.hid (HAB3.out.flag F)⟩
          case measure => simp [intOf]; omega
      have hn5 := hv
      clear hv
      by_cases hv : hd0 g = 6
      · as_aux_lemma =>
          have HF : Hid (turnZ x.fl (flagN g) = withZ x.fl 16 true) := Lib.hid (by rw [flagN_six hv]; exact turn_on (k := 4) HOK.out 4 (by decide) rfl (by decide) rfl rfl)
          have HST := Lib.hid (step_other x g t 6 hv (by decide) (by decide) (by decide))
          have HOK2 := Lib.hid (okF_turn x.fl (flagN g) HOK.out)
          rw [HF.out] at HST HOK2
          have HW1 : Hid (∀ W, Calls Tryd.prog 29 #[.int .i64 x.fl, .int .i64 16, .bool true] W fun e w' => e = .returned (.int .i64 (withZ x.fl 16 true)) ∧ Below W.heap.size W w') := Lib.hid fun W => HWF.out x.fl 4 true W (by decide) HRG.1 HRG.2
          rw [hv] at HAT
          clear HCR hv0 hv1 hv hv38 hv48 hvz HF HWF hn1 hn2 hn3 hn4 hn5
          generalize withZ x.fl 16 true = F at *
          go_wp2_with (first | (go_at_call 27; (with_reducible refine (HAT.out _ HAB.out.below).mono ?_); rintro e w2 ⟨rfl, rfl⟩) | (go_at_call 29; (with_reducible refine (HW1.out _).mono ?_); rintro e w3 ⟨rfl, hb3⟩; have HAB3 := Lib.hid (HAB.out.past hb3); obtain ⟨⟨x0, x1, x2, x3, x4⟩, f0, f1, f2, f3, f4⟩ := HAB3.out.cells; clear hb3))
          go_roundw
          case rel => exact ⟨i + 1, ⟨x.fk, x.fn, x.bk, x.bn, F⟩, by go_num, by omega, Lib.hid (turnP_at HEQ.out HDR.out HST.out), Lib.hid HOK2.out, Lib.hid (HAB3.out.flag F)⟩
          case measure => simp [intOf]; omega
      have hn6 := hv
      clear hv
      by_cases hv : hd0 g = 7
      · as_aux_lemma =>
          have HF : Hid (turnZ x.fl (flagN g) = withZ x.fl 32 true) := Lib.hid (by rw [flagN_plain hv (by decide) (by decide)]; exact turn_on (k := 5) HOK.out 5 (by decide) rfl (by decide) rfl rfl)
          have HST := Lib.hid (step_other x g t 7 hv (by decide) (by decide) (by decide))
          have HOK2 := Lib.hid (okF_turn x.fl (flagN g) HOK.out)
          rw [HF.out] at HST HOK2
          have HW1 : Hid (∀ W, Calls Tryd.prog 29 #[.int .i64 x.fl, .int .i64 32, .bool true] W fun e w' => e = .returned (.int .i64 (withZ x.fl 32 true)) ∧ Below W.heap.size W w') := Lib.hid fun W => HWF.out x.fl 5 true W (by decide) HRG.1 HRG.2
          rw [hv] at HAT
          clear HCR hv0 hv1 hv hv38 hv48 hvz HF HWF hn1 hn2 hn3 hn4 hn5 hn6
          generalize withZ x.fl 32 true = F at *
          go_wp2_with (first | (go_at_call 27; (with_reducible refine (HAT.out _ HAB.out.below).mono ?_); rintro e w2 ⟨rfl, rfl⟩) | (go_at_call 29; (with_reducible refine (HW1.out _).mono ?_); rintro e w3 ⟨rfl, hb3⟩; have HAB3 := Lib.hid (HAB.out.past hb3); obtain ⟨⟨x0, x1, x2, x3, x4⟩, f0, f1, f2, f3, f4⟩ := HAB3.out.cells; clear hb3))
          go_roundw
          case rel => exact ⟨i + 1, ⟨x.fk, x.fn, x.bk, x.bn, F⟩, by go_num, by omega, Lib.hid (turnP_at HEQ.out HDR.out HST.out), Lib.hid HOK2.out, Lib.hid (HAB3.out.flag F)⟩
          case measure => simp [intOf]; omega
      have hn7 := hv
      clear hv
      by_cases hv : hd0 g = 8
      · as_aux_lemma =>
          have HF : Hid (turnZ x.fl (flagN g) = withZ x.fl 64 true) := Lib.hid (by rw [flagN_plain hv (by decide) (by decide)]; exact turn_on (k := 6) HOK.out 6 (by decide) rfl (by decide) rfl rfl)
          have HST := Lib.hid (step_other x g t 8 hv (by decide) (by decide) (by decide))
          have HOK2 := Lib.hid (okF_turn x.fl (flagN g) HOK.out)
          rw [HF.out] at HST HOK2
          have HW1 : Hid (∀ W, Calls Tryd.prog 29 #[.int .i64 x.fl, .int .i64 64, .bool true] W fun e w' => e = .returned (.int .i64 (withZ x.fl 64 true)) ∧ Below W.heap.size W w') := Lib.hid fun W => HWF.out x.fl 6 true W (by decide) HRG.1 HRG.2
          rw [hv] at HAT
          clear HCR hv0 hv1 hv hv38 hv48 hvz HF HWF hn1 hn2 hn3 hn4 hn5 hn6 hn7
          generalize withZ x.fl 64 true = F at *
          go_wp2_with (first | (go_at_call 27; (with_reducible refine (HAT.out _ HAB.out.below).mono ?_); rintro e w2 ⟨rfl, rfl⟩) | (go_at_call 29; (with_reducible refine (HW1.out _).mono ?_); rintro e w3 ⟨rfl, hb3⟩; have HAB3 := Lib.hid (HAB.out.past hb3); obtain ⟨⟨x0, x1, x2, x3, x4⟩, f0, f1, f2, f3, f4⟩ := HAB3.out.cells; clear hb3))
          go_roundw
          case rel => exact ⟨i + 1, ⟨x.fk, x.fn, x.bk, x.bn, F⟩, by go_num, by omega, Lib.hid (turnP_at HEQ.out HDR.out HST.out), Lib.hid HOK2.out, Lib.hid (HAB3.out.flag F)⟩
          case measure => simp [intOf]; omega
      have hn8 := hv
      clear hv
      by_cases hv : hd0 g = 9
      · as_aux_lemma =>
          have HF : Hid (turnZ x.fl (flagN g) = withZ x.fl 128 true) := Lib.hid (by rw [flagN_plain hv (by decide) (by decide)]; exact turn_on (k := 7) HOK.out 7 (by decide) rfl (by decide) rfl rfl)
          have HST := Lib.hid (step_other x g t 9 hv (by decide) (by decide) (by decide))
          have HOK2 := Lib.hid (okF_turn x.fl (flagN g) HOK.out)
          rw [HF.out] at HST HOK2
          have HW1 : Hid (∀ W, Calls Tryd.prog 29 #[.int .i64 x.fl, .int .i64 128, .bool true] W fun e w' => e = .returned (.int .i64 (withZ x.fl 128 true)) ∧ Below W.heap.size W w') := Lib.hid fun W => HWF.out x.fl 7 true W (by decide) HRG.1 HRG.2
          rw [hv] at HAT
          clear HCR hv0 hv1 hv hv38 hv48 hvz HF HWF hn1 hn2 hn3 hn4 hn5 hn6 hn7 hn8
          generalize withZ x.fl 128 true = F at *
          go_wp2_with (first | (go_at_call 27; (with_reducible refine (HAT.out _ HAB.out.below).mono ?_); rintro e w2 ⟨rfl, rfl⟩) | (go_at_call 29; (with_reducible refine (HW1.out _).mono ?_); rintro e w3 ⟨rfl, hb3⟩; have HAB3 := Lib.hid (HAB.out.past hb3); obtain ⟨⟨x0, x1, x2, x3, x4⟩, f0, f1, f2, f3, f4⟩ := HAB3.out.cells; clear hb3))
          go_roundw
          case rel => exact ⟨i + 1, ⟨x.fk, x.fn, x.bk, x.bn, F⟩, by go_num, by omega, Lib.hid (turnP_at HEQ.out HDR.out HST.out), Lib.hid HOK2.out, Lib.hid (HAB3.out.flag F)⟩
          case measure => simp [intOf]; omega
      have hn9 := hv
      clear hv
      by_cases hv : hd0 g = 21
      · as_aux_lemma =>
          have HF : Hid (turnZ x.fl (flagN g) = withZ (withZ x.fl 8 false) 256 true) := Lib.hid (by rw [flagN_plain hv (by decide) (by decide)]; exact (turn_two HOK.out).2.2.2.1)
          have HST := Lib.hid (step_other x g t 21 hv (by decide) (by decide) (by decide))
          have HOK2 := Lib.hid (okF_turn x.fl (flagN g) HOK.out)
          rw [HF.out] at HST HOK2
          have HW1 : Hid (∀ W, Calls Tryd.prog 29 #[.int .i64 x.fl, .int .i64 8, .bool false] W fun e w' => e = .returned (.int .i64 (withZ x.fl 8 false)) ∧ Below W.heap.size W w') := Lib.hid fun W => HWF.out x.fl 3 false W (by decide) HRG.1 HRG.2
          have HW2 : Hid (∀ W, Calls Tryd.prog 29 #[.int .i64 (withZ x.fl 8 false), .int .i64 256, .bool true] W fun e w' => e = .returned (.int .i64 (withZ (withZ x.fl 8 false) 256 true)) ∧ Below W.heap.size W w') := Lib.hid fun W => HWF.out _ 8 true W (by decide) (with_range x.fl HRG.1 HRG.2 3 (by decide) false).1 (with_range x.fl HRG.1 HRG.2 3 (by decide) false).2
          rw [hv] at HAT
          clear HCR hv0 hv1 hv hv38 hv48 hvz HF HWF hn1 hn2 hn3 hn4 hn5 hn6 hn7 hn8 hn9
          generalize withZ (withZ x.fl 8 false) 256 true = F at *
          generalize withZ x.fl 8 false = F1 at *
          go_wp2_with (first | (go_at_call 27; (with_reducible refine (HAT.out _ HAB.out.below).mono ?_); rintro e w2 ⟨rfl, rfl⟩) | (go_at_call 29; first | ((with_reducible refine (HW1.out _).mono ?_); rintro e w3 ⟨rfl, hb3⟩; have HAB3 := Lib.hid (HAB.out.past hb3); clear hb3) | ((with_reducible refine (HW2.out _).mono ?_); rintro e w4 ⟨rfl, hb4⟩; have HAB4 := Lib.hid (HAB3.out.past hb4); obtain ⟨⟨x0, x1, x2, x3, x4⟩, f0, f1, f2, f3, f4⟩ := HAB4.out.cells; clear hb4)))
          go_roundw
          case rel => exact ⟨i + 1, ⟨x.fk, x.fn, x.bk, x.bn, F⟩, by go_num, by omega, Lib.hid (turnP_at HEQ.out HDR.out HST.out), Lib.hid HOK2.out, Lib.hid (HAB4.out.flag F)⟩
          case measure => simp [intOf]; omega
      have hn21 := hv
      clear hv
      by_cases hv : hd0 g = 22
      · as_aux_lemma =>
          have HF : Hid (turnZ x.fl (flagN g) = withZ (withZ x.fl 1 false) 2 false) := Lib.hid (by rw [flagN_plain hv (by decide) (by decide)]; exact (turn_two HOK.out).2.2.2.2.2)
          have HST := Lib.hid (step_other x g t 22 hv (by decide) (by decide) (by decide))
          have HOK2 := Lib.hid (okF_turn x.fl (flagN g) HOK.out)
          rw [HF.out] at HST HOK2
          have HW1 : Hid (∀ W, Calls Tryd.prog 29 #[.int .i64 x.fl, .int .i64 1, .bool false] W fun e w' => e = .returned (.int .i64 (withZ x.fl 1 false)) ∧ Below W.heap.size W w') := Lib.hid fun W => HWF.out x.fl 0 false W (by decide) HRG.1 HRG.2
          have HW2 : Hid (∀ W, Calls Tryd.prog 29 #[.int .i64 (withZ x.fl 1 false), .int .i64 2, .bool false] W fun e w' => e = .returned (.int .i64 (withZ (withZ x.fl 1 false) 2 false)) ∧ Below W.heap.size W w') := Lib.hid fun W => HWF.out _ 1 false W (by decide) (with_range x.fl HRG.1 HRG.2 0 (by decide) false).1 (with_range x.fl HRG.1 HRG.2 0 (by decide) false).2
          rw [hv] at HAT
          clear HCR hv0 hv1 hv hv38 hv48 hvz HF HWF hn1 hn2 hn3 hn4 hn5 hn6 hn7 hn8 hn9 hn21
          generalize withZ (withZ x.fl 1 false) 2 false = F at *
          generalize withZ x.fl 1 false = F1 at *
          go_wp2_with (first | (go_at_call 27; (with_reducible refine (HAT.out _ HAB.out.below).mono ?_); rintro e w2 ⟨rfl, rfl⟩) | (go_at_call 29; first | ((with_reducible refine (HW1.out _).mono ?_); rintro e w3 ⟨rfl, hb3⟩; have HAB3 := Lib.hid (HAB.out.past hb3); clear hb3) | ((with_reducible refine (HW2.out _).mono ?_); rintro e w4 ⟨rfl, hb4⟩; have HAB4 := Lib.hid (HAB3.out.past hb4); obtain ⟨⟨x0, x1, x2, x3, x4⟩, f0, f1, f2, f3, f4⟩ := HAB4.out.cells; clear hb4)))
          go_roundw
          case rel => exact ⟨i + 1, ⟨x.fk, x.fn, x.bk, x.bn, F⟩, by go_num, by omega, Lib.hid (turnP_at HEQ.out HDR.out HST.out), Lib.hid HOK2.out, Lib.hid (HAB4.out.flag F)⟩
          case measure => simp [intOf]; omega
      have hn22 := hv
      clear hv
      by_cases hv : hd0 g = 23
      · as_aux_lemma =>
          have HF : Hid (turnZ x.fl (flagN g) = withZ x.fl 4 false) := Lib.hid (by rw [flagN_plain hv (by decide) (by decide)]; exact turn_off (k := 2) HOK.out 10 (by decide) rfl (by decide) rfl rfl)
          have HST := Lib.hid (step_other x g t 23 hv (by decide) (by decide) (by decide))
          have HOK2 := Lib.hid (okF_turn x.fl (flagN g) HOK.out)
          rw [HF.out] at HST HOK2
          have HW1 : Hid (∀ W, Calls Tryd.prog 29 #[.int .i64 x.fl, .int .i64 4, .bool false] W fun e w' => e = .returned (.int .i64 (withZ x.fl 4 false)) ∧ Below W.heap.size W w') := Lib.hid fun W => HWF.out x.fl 2 false W (by decide) HRG.1 HRG.2
          rw [hv] at HAT
          clear HCR hv0 hv1 hv hv38 hv48 hvz HF HWF hn1 hn2 hn3 hn4 hn5 hn6 hn7 hn8 hn9 hn21 hn22
          generalize withZ x.fl 4 false = F at *
          go_wp2_with (first | (go_at_call 27; (with_reducible refine (HAT.out _ HAB.out.below).mono ?_); rintro e w2 ⟨rfl, rfl⟩) | (go_at_call 29; (with_reducible refine (HW1.out _).mono ?_); rintro e w3 ⟨rfl, hb3⟩; have HAB3 := Lib.hid (HAB.out.past hb3); obtain ⟨⟨x0, x1, x2, x3, x4⟩, f0, f1, f2, f3, f4⟩ := HAB3.out.cells; clear hb3))
          go_roundw
          case rel => exact ⟨i + 1, ⟨x.fk, x.fn, x.bk, x.bn, F⟩, by go_num, by omega, Lib.hid (turnP_at HEQ.out HDR.out HST.out), Lib.hid HOK2.out, Lib.hid (HAB3.out.flag F)⟩
          case measure => simp [intOf]; omega
      have hn23 := hv
      clear hv
      by_cases hv : hd0 g = 24
      · as_aux_lemma =>
          have HF : Hid (turnZ x.fl (flagN g) = withZ (withZ x.fl 8 false) 256 false) := Lib.hid (by rw [flagN_plain hv (by decide) (by decide)]; exact (turn_two HOK.out).2.2.2.2.1)
          have HST := Lib.hid (step_other x g t 24 hv (by decide) (by decide) (by decide))
          have HOK2 := Lib.hid (okF_turn x.fl (flagN g) HOK.out)
          rw [HF.out] at HST HOK2
          have HW1 : Hid (∀ W, Calls Tryd.prog 29 #[.int .i64 x.fl, .int .i64 8, .bool false] W fun e w' => e = .returned (.int .i64 (withZ x.fl 8 false)) ∧ Below W.heap.size W w') := Lib.hid fun W => HWF.out x.fl 3 false W (by decide) HRG.1 HRG.2
          have HW2 : Hid (∀ W, Calls Tryd.prog 29 #[.int .i64 (withZ x.fl 8 false), .int .i64 256, .bool false] W fun e w' => e = .returned (.int .i64 (withZ (withZ x.fl 8 false) 256 false)) ∧ Below W.heap.size W w') := Lib.hid fun W => HWF.out _ 8 false W (by decide) (with_range x.fl HRG.1 HRG.2 3 (by decide) false).1 (with_range x.fl HRG.1 HRG.2 3 (by decide) false).2
          rw [hv] at HAT
          clear HCR hv0 hv1 hv hv38 hv48 hvz HF HWF hn1 hn2 hn3 hn4 hn5 hn6 hn7 hn8 hn9 hn21 hn22 hn23
          generalize withZ (withZ x.fl 8 false) 256 false = F at *
          generalize withZ x.fl 8 false = F1 at *
          go_wp2_with (first | (go_at_call 27; (with_reducible refine (HAT.out _ HAB.out.below).mono ?_); rintro e w2 ⟨rfl, rfl⟩) | (go_at_call 29; first | ((with_reducible refine (HW1.out _).mono ?_); rintro e w3 ⟨rfl, hb3⟩; have HAB3 := Lib.hid (HAB.out.past hb3); clear hb3) | ((with_reducible refine (HW2.out _).mono ?_); rintro e w4 ⟨rfl, hb4⟩; have HAB4 := Lib.hid (HAB3.out.past hb4); obtain ⟨⟨x0, x1, x2, x3, x4⟩, f0, f1, f2, f3, f4⟩ := HAB4.out.cells; clear hb4)))
          go_roundw
          case rel => exact ⟨i + 1, ⟨x.fk, x.fn, x.bk, x.bn, F⟩, by go_num, by omega, Lib.hid (turnP_at HEQ.out HDR.out HST.out), Lib.hid HOK2.out, Lib.hid (HAB4.out.flag F)⟩
          case measure => simp [intOf]; omega
      have hn24 := hv
      clear hv
      by_cases hv : hd0 g = 25
      · as_aux_lemma =>
          have HF : Hid (turnZ x.fl (flagN g) = withZ x.fl 16 false) := Lib.hid (by rw [flagN_plain hv (by decide) (by decide)]; exact turn_off (k := 4) HOK.out 12 (by decide) rfl (by decide) rfl rfl)
          have HST := Lib.hid (step_other x g t 25 hv (by decide) (by decide) (by decide))
          have HOK2 := Lib.hid (okF_turn x.fl (flagN g) HOK.out)
          rw [HF.out] at HST HOK2
          have HW1 : Hid (∀ W, Calls Tryd.prog 29 #[.int .i64 x.fl, .int .i64 16, .bool false] W fun e w' => e = .returned (.int .i64 (withZ x.fl 16 false)) ∧ Below W.heap.size W w') := Lib.hid fun W => HWF.out x.fl 4 false W (by decide) HRG.1 HRG.2
          rw [hv] at HAT
          clear HCR hv0 hv1 hv hv38 hv48 hvz HF HWF hn1 hn2 hn3 hn4 hn5 hn6 hn7 hn8 hn9 hn21 hn22 hn23 hn24
          generalize withZ x.fl 16 false = F at *
          go_wp2_with (first | (go_at_call 27; (with_reducible refine (HAT.out _ HAB.out.below).mono ?_); rintro e w2 ⟨rfl, rfl⟩) | (go_at_call 29; (with_reducible refine (HW1.out _).mono ?_); rintro e w3 ⟨rfl, hb3⟩; have HAB3 := Lib.hid (HAB.out.past hb3); obtain ⟨⟨x0, x1, x2, x3, x4⟩, f0, f1, f2, f3, f4⟩ := HAB3.out.cells; clear hb3))
          go_roundw
          case rel => exact ⟨i + 1, ⟨x.fk, x.fn, x.bk, x.bn, F⟩, by go_num, by omega, Lib.hid (turnP_at HEQ.out HDR.out HST.out), Lib.hid HOK2.out, Lib.hid (HAB3.out.flag F)⟩
          case measure => simp [intOf]; omega
      have hn25 := hv
      clear hv
      by_cases hv : hd0 g = 27
      · as_aux_lemma =>
          have HF : Hid (turnZ x.fl (flagN g) = withZ x.fl 32 false) := Lib.hid (by rw [flagN_plain hv (by decide) (by decide)]; exact turn_off (k := 5) HOK.out 13 (by decide) rfl (by decide) rfl rfl)
          have HST := Lib.hid (step_other x g t 27 hv (by decide) (by decide) (by decide))
          have HOK2 := Lib.hid (okF_turn x.fl (flagN g) HOK.out)
          rw [HF.out] at HST HOK2
          have HW1 : Hid (∀ W, Calls Tryd.prog 29 #[.int .i64 x.fl, .int .i64 32, .bool false] W fun e w' => e = .returned (.int .i64 (withZ x.fl 32 false)) ∧ Below W.heap.size W w') := Lib.hid fun W => HWF.out x.fl 5 false W (by decide) HRG.1 HRG.2
          rw [hv] at HAT
          clear HCR hv0 hv1 hv hv38 hv48 hvz HF HWF hn1 hn2 hn3 hn4 hn5 hn6 hn7 hn8 hn9 hn21 hn22 hn23 hn24 hn25
          generalize withZ x.fl 32 false = F at *
          go_wp2_with (first | (go_at_call 27; (with_reducible refine (HAT.out _ HAB.out.below).mono ?_); rintro e w2 ⟨rfl, rfl⟩) | (go_at_call 29; (with_reducible refine (HW1.out _).mono ?_); rintro e w3 ⟨rfl, hb3⟩; have HAB3 := Lib.hid (HAB.out.past hb3); obtain ⟨⟨x0, x1, x2, x3, x4⟩, f0, f1, f2, f3, f4⟩ := HAB3.out.cells; clear hb3))
          go_roundw
          case rel => exact ⟨i + 1, ⟨x.fk, x.fn, x.bk, x.bn, F⟩, by go_num, by omega, Lib.hid (turnP_at HEQ.out HDR.out HST.out), Lib.hid HOK2.out, Lib.hid (HAB3.out.flag F)⟩
          case measure => simp [intOf]; omega
      have hn27 := hv
      clear hv
      by_cases hv : hd0 g = 28
      · as_aux_lemma =>
          have HF : Hid (turnZ x.fl (flagN g) = withZ x.fl 64 false) := Lib.hid (by rw [flagN_plain hv (by decide) (by decide)]; exact turn_off (k := 6) HOK.out 14 (by decide) rfl (by decide) rfl rfl)
          have HST := Lib.hid (step_other x g t 28 hv (by decide) (by decide) (by decide))
          have HOK2 := Lib.hid (okF_turn x.fl (flagN g) HOK.out)
          rw [HF.out] at HST HOK2
          have HW1 : Hid (∀ W, Calls Tryd.prog 29 #[.int .i64 x.fl, .int .i64 64, .bool false] W fun e w' => e = .returned (.int .i64 (withZ x.fl 64 false)) ∧ Below W.heap.size W w') := Lib.hid fun W => HWF.out x.fl 6 false W (by decide) HRG.1 HRG.2
          rw [hv] at HAT
          clear HCR hv0 hv1 hv hv38 hv48 hvz HF HWF hn1 hn2 hn3 hn4 hn5 hn6 hn7 hn8 hn9 hn21 hn22 hn23 hn24 hn25 hn27
          generalize withZ x.fl 64 false = F at *
          go_wp2_with (first | (go_at_call 27; (with_reducible refine (HAT.out _ HAB.out.below).mono ?_); rintro e w2 ⟨rfl, rfl⟩) | (go_at_call 29; (with_reducible refine (HW1.out _).mono ?_); rintro e w3 ⟨rfl, hb3⟩; have HAB3 := Lib.hid (HAB.out.past hb3); obtain ⟨⟨x0, x1, x2, x3, x4⟩, f0, f1, f2, f3, f4⟩ := HAB3.out.cells; clear hb3))
          go_roundw
          case rel => exact ⟨i + 1, ⟨x.fk, x.fn, x.bk, x.bn, F⟩, by go_num, by omega, Lib.hid (turnP_at HEQ.out HDR.out HST.out), Lib.hid HOK2.out, Lib.hid (HAB3.out.flag F)⟩
          case measure => simp [intOf]; omega
      have hn28 := hv
      clear hv
      by_cases hv : hd0 g = 29
      · as_aux_lemma =>
          have HF : Hid (turnZ x.fl (flagN g) = withZ x.fl 128 false) := Lib.hid (by rw [flagN_plain hv (by decide) (by decide)]; exact turn_off (k := 7) HOK.out 15 (by decide) rfl (by decide) rfl rfl)
          have HST := Lib.hid (step_other x g t 29 hv (by decide) (by decide) (by decide))
          have HOK2 := Lib.hid (okF_turn x.fl (flagN g) HOK.out)
          rw [HF.out] at HST HOK2
          have HW1 : Hid (∀ W, Calls Tryd.prog 29 #[.int .i64 x.fl, .int .i64 128, .bool false] W fun e w' => e = .returned (.int .i64 (withZ x.fl 128 false)) ∧ Below W.heap.size W w') := Lib.hid fun W => HWF.out x.fl 7 false W (by decide) HRG.1 HRG.2
          rw [hv] at HAT
          clear HCR hv0 hv1 hv hv38 hv48 hvz HF HWF hn1 hn2 hn3 hn4 hn5 hn6 hn7 hn8 hn9 hn21 hn22 hn23 hn24 hn25 hn27 hn28
          generalize withZ x.fl 128 false = F at *
          go_wp2_with (first | (go_at_call 27; (with_reducible refine (HAT.out _ HAB.out.below).mono ?_); rintro e w2 ⟨rfl, rfl⟩) | (go_at_call 29; (with_reducible refine (HW1.out _).mono ?_); rintro e w3 ⟨rfl, hb3⟩; have HAB3 := Lib.hid (HAB.out.past hb3); obtain ⟨⟨x0, x1, x2, x3, x4⟩, f0, f1, f2, f3, f4⟩ := HAB3.out.cells; clear hb3))
          go_roundw
          case rel => exact ⟨i + 1, ⟨x.fk, x.fn, x.bk, x.bn, F⟩, by go_num, by omega, Lib.hid (turnP_at HEQ.out HDR.out HST.out), Lib.hid HOK2.out, Lib.hid (HAB3.out.flag F)⟩
          case measure => simp [intOf]; omega
      have hn29 := hv
      clear hv
      by_cases hv : hd0 g = 53
      · as_aux_lemma =>
          have HF : Hid (turnZ x.fl (flagN g) = withZ x.fl 512 true) := Lib.hid (by rw [flagN_plain hv (by decide) (by decide)]; exact turn_on (k := 9) HOK.out 16 (by decide) rfl (by decide) rfl rfl)
          have HST := Lib.hid (step_other x g t 53 hv (by decide) (by decide) (by decide))
          have HOK2 := Lib.hid (okF_turn x.fl (flagN g) HOK.out)
          rw [HF.out] at HST HOK2
          have HW1 : Hid (∀ W, Calls Tryd.prog 29 #[.int .i64 x.fl, .int .i64 512, .bool true] W fun e w' => e = .returned (.int .i64 (withZ x.fl 512 true)) ∧ Below W.heap.size W w') := Lib.hid fun W => HWF.out x.fl 9 true W (by decide) HRG.1 HRG.2
          rw [hv] at HAT
          clear HCR hv0 hv1 hv hv38 hv48 hvz HF HWF hn1 hn2 hn3 hn4 hn5 hn6 hn7 hn8 hn9 hn21 hn22 hn23 hn24 hn25 hn27 hn28 hn29
          generalize withZ x.fl 512 true = F at *
          go_wp2_with (first | (go_at_call 27; (with_reducible refine (HAT.out _ HAB.out.below).mono ?_); rintro e w2 ⟨rfl, rfl⟩) | (go_at_call 29; (with_reducible refine (HW1.out _).mono ?_); rintro e w3 ⟨rfl, hb3⟩; have HAB3 := Lib.hid (HAB.out.past hb3); obtain ⟨⟨x0, x1, x2, x3, x4⟩, f0, f1, f2, f3, f4⟩ := HAB3.out.cells; clear hb3))
          go_roundw
          case rel => exact ⟨i + 1, ⟨x.fk, x.fn, x.bk, x.bn, F⟩, by go_num, by omega, Lib.hid (turnP_at HEQ.out HDR.out HST.out), Lib.hid HOK2.out, Lib.hid (HAB3.out.flag F)⟩
          case measure => simp [intOf]; omega
      have hn53 := hv
      clear hv
      by_cases hv : hd0 g = 55
      · as_aux_lemma =>
          have HF : Hid (turnZ x.fl (flagN g) = withZ x.fl 512 false) := Lib.hid (by rw [flagN_plain hv (by decide) (by decide)]; exact turn_off (k := 9) HOK.out 17 (by decide) rfl (by decide) rfl rfl)
          have HST := Lib.hid (step_other x g t 55 hv (by decide) (by decide) (by decide))
          have HOK2 := Lib.hid (okF_turn x.fl (flagN g) HOK.out)
          rw [HF.out] at HST HOK2
          have HW1 : Hid (∀ W, Calls Tryd.prog 29 #[.int .i64 x.fl, .int .i64 512, .bool false] W fun e w' => e = .returned (.int .i64 (withZ x.fl 512 false)) ∧ Below W.heap.size W w') := Lib.hid fun W => HWF.out x.fl 9 false W (by decide) HRG.1 HRG.2
          rw [hv] at HAT
          clear HCR hv0 hv1 hv hv38 hv48 hvz HF HWF hn1 hn2 hn3 hn4 hn5 hn6 hn7 hn8 hn9 hn21 hn22 hn23 hn24 hn25 hn27 hn28 hn29 hn53
          generalize withZ x.fl 512 false = F at *
          go_wp2_with (first | (go_at_call 27; (with_reducible refine (HAT.out _ HAB.out.below).mono ?_); rintro e w2 ⟨rfl, rfl⟩) | (go_at_call 29; (with_reducible refine (HW1.out _).mono ?_); rintro e w3 ⟨rfl, hb3⟩; have HAB3 := Lib.hid (HAB.out.past hb3); obtain ⟨⟨x0, x1, x2, x3, x4⟩, f0, f1, f2, f3, f4⟩ := HAB3.out.cells; clear hb3))
          go_roundw
          case rel => exact ⟨i + 1, ⟨x.fk, x.fn, x.bk, x.bn, F⟩, by go_num, by omega, Lib.hid (turnP_at HEQ.out HDR.out HST.out), Lib.hid HOK2.out, Lib.hid (HAB3.out.flag F)⟩
          case measure => simp [intOf]; omega
      have hn55 := hv
      clear hv
      by_cases hv : hd0 g = 39
      · as_aux_lemma =>
          have HF : Hid (turnZ x.fl (flagN g) = x.fl) := Lib.hid (by rw [flagN_plain hv (by decide) (by decide)]; exact turnZ_out x.fl 39 (by decide))
          have HST := Lib.hid (step_other x g t 39 hv (by decide) (by decide) (by decide))
          rw [HF.out] at HST
          rw [hv] at HAT
          clear HCR hv0 hv1 hv hv38 hv48 hvz HF HWF hn1 hn2 hn3 hn4 hn5 hn6 hn7 hn8 hn9 hn21 hn22 hn23 hn24 hn25 hn27 hn28 hn29 hn53 hn55
          go_wp2_with (go_at_call 27; (with_reducible refine (HAT.out _ HAB.out.below).mono ?_); rintro e w2 ⟨rfl, rfl⟩)
          go_roundw
          case rel => exact ⟨i + 1, ⟨0, 0, x.bk, x.bn, x.fl⟩, by go_num, by omega, Lib.hid (turnP_at HEQ.out HDR.out HST.out), Lib.hid HOK.out, Lib.hid ((HAB.out.fore 0 0).flag x.fl)⟩
          case measure => simp [intOf]; omega
      have hn39 := hv
      clear hv
      by_cases hv : hd0 g = 49
      · as_aux_lemma =>
          have HF : Hid (turnZ x.fl (flagN g) = x.fl) := Lib.hid (by rw [flagN_plain hv (by decide) (by decide)]; exact turnZ_out x.fl 49 (by decide))
          have HST := Lib.hid (step_other x g t 49 hv (by decide) (by decide) (by decide))
          rw [HF.out] at HST
          rw [hv] at HAT
          clear HCR hv0 hv1 hv hv38 hv48 hvz HF HWF hn1 hn2 hn3 hn4 hn5 hn6 hn7 hn8 hn9 hn21 hn22 hn23 hn24 hn25 hn27 hn28 hn29 hn53 hn55 hn39
          go_wp2_with (go_at_call 27; (with_reducible refine (HAT.out _ HAB.out.below).mono ?_); rintro e w2 ⟨rfl, rfl⟩)
          go_roundw
          case rel => exact ⟨i + 1, ⟨x.fk, x.fn, 0, 0, x.fl⟩, by go_num, by omega, Lib.hid (turnP_at HEQ.out HDR.out HST.out), Lib.hid HOK.out, Lib.hid ((HAB.out.back 0 0).flag x.fl)⟩
          case measure => simp [intOf]; omega
      have hn49 := hv
      clear hv
      have HF : Hid (turnZ x.fl (flagN g) = x.fl) := Lib.hid (by
        rw [flagN_plain rfl hn4 hn6]
        refine turnZ_out x.fl _ (fun k hk => ?_)
        rcases (by omega : k = 0 ∨ k = 1 ∨ k = 2 ∨ k = 3 ∨ k = 4 ∨ k = 5 ∨ k = 6 ∨ k = 7 ∨ k = 8 ∨ k = 9 ∨ k = 10 ∨ k = 11 ∨ k = 12 ∨ k = 13 ∨ k = 14 ∨ k = 15 ∨ k = 16 ∨ k = 17) with rfl | rfl | rfl | rfl | rfl | rfl | rfl | rfl | rfl | rfl | rfl | rfl | rfl | rfl | rfl | rfl | rfl | rfl
        all_goals first | exact fun e => hn1 e.symm | exact fun e => hn2 e.symm | exact fun e => hn3 e.symm | exact fun e => hn4 e.symm | exact fun e => hn5 e.symm | exact fun e => hn7 e.symm | exact fun e => hn8 e.symm | exact fun e => hn9 e.symm | exact fun e => hn21 e.symm | exact fun e => hn22 e.symm | exact fun e => hn23 e.symm | exact fun e => hn24 e.symm | exact fun e => hn25 e.symm | exact fun e => hn27 e.symm | exact fun e => hn28 e.symm | exact fun e => hn29 e.symm | exact fun e => hn53 e.symm | exact fun e => hn55 e.symm)
      have HST := Lib.hid (step_other x g t (hd0 g) rfl hvz hv38 hv48)
      rw [HF.out] at HST
      clear HF HWF HCR
      generalize hd0 g = v at *
      generalize g.length = gl at *
      have e0 : (v == 0) = false := by simpa using hvz
      have e38 : (v == 38) = false := by simpa using hv38
      have e48 : (v == 48) = false := by simpa using hv48
      have e1 : (v == 1) = false := by simpa using hn1
      have e2 : (v == 2) = false := by simpa using hn2
      have e3 : (v == 3) = false := by simpa using hn3
      have e4 : (v == 4) = false := by simpa using hn4
      have e5 : (v == 5) = false := by simpa using hn5
      have e6 : (v == 6) = false := by simpa using hn6
      have e7 : (v == 7) = false := by simpa using hn7
      have e8 : (v == 8) = false := by simpa using hn8
      have e9 : (v == 9) = false := by simpa using hn9
      have e21 : (v == 21) = false := by simpa using hn21
      have e22 : (v == 22) = false := by simpa using hn22
      have e23 : (v == 23) = false := by simpa using hn23
      have e24 : (v == 24) = false := by simpa using hn24
      have e25 : (v == 25) = false := by simpa using hn25
      have e27 : (v == 27) = false := by simpa using hn27
      have e28 : (v == 28) = false := by simpa using hn28
      have e29 : (v == 29) = false := by simpa using hn29
      have e53 : (v == 53) = false := by simpa using hn53
      have e55 : (v == 55) = false := by simpa using hn55
      have e39 : (v == 39) = false := by simpa using hn39
      have e49 : (v == 49) = false := by simpa using hn49
      have r0 : v = 39 → False := hn39
      rcases (by omega : v < 30 ∨ (30 ≤ v ∧ v ≤ 37) ∨ (38 ≤ v ∧ v ≤ 39) ∨ (40 ≤ v ∧ v ≤ 47) ∨ (48 ≤ v ∧ v < 90) ∨ (90 ≤ v ∧ v ≤ 97) ∨ (98 ≤ v ∧ v < 100) ∨ (100 ≤ v ∧ v ≤ 107) ∨ 107 < v) with hrg | hrg | hrg | hrg | hrg | hrg | hrg | hrg | hrg
      · as_aux_lemma =>
          have p1 : decide (v ≥ 30) = false := decide_eq_false (by omega)
          have p2 : decide (v ≤ 37) = true := decide_eq_true (by omega)
          have p3 : decide (v ≥ 90) = false := decide_eq_false (by omega)
          have p4 : decide (v ≤ 97) = true := decide_eq_true (by omega)
          have p5 : decide (v ≥ 40) = false := decide_eq_false (by omega)
          have p6 : decide (v ≤ 47) = true := decide_eq_true (by omega)
          have p7 : decide (v ≥ 100) = false := decide_eq_false (by omega)
          have p8 : decide (v ≤ 107) = true := decide_eq_true (by omega)
          have HX : Hid ((⟨namedK x.fk v, namedN x.fn v, namedK x.bk (v - 10), namedN x.bn (v - 10), x.fl⟩ : AT) = ⟨x.fk, x.fn, x.bk, x.bn, x.fl⟩) := Lib.hid (by
            unfold namedK namedN
            congr 1
            · exact (if_neg (by omega)).trans ((if_neg (by omega)).trans (if_neg (by omega)))
            · exact (if_neg (by omega)).trans ((if_neg (by omega)).trans (if_neg (by omega)))
            · exact (if_neg (by omega)).trans ((if_neg (by omega)).trans (if_neg (by omega)))
            · exact (if_neg (by omega)).trans ((if_neg (by omega)).trans (if_neg (by omega))))
          rw [HX.out] at HST
          clear hvz hv38 hv48 r0 hn1 hn2 hn3 hn4 hn5 hn6 hn7 hn8 hn9 hn21 hn22 hn23 hn24 hn25 hn27 hn28 hn29 hn53 hn55 hn39 hn49 hrg HX
          go_wp2_with (go_at_call 27; (with_reducible refine (HAT.out _ HAB.out.below).mono ?_); rintro e w2 ⟨rfl, rfl⟩)
          go_roundw
          case rel => exact ⟨i + 1, ⟨x.fk, x.fn, x.bk, x.bn, x.fl⟩, by go_num, by omega, Lib.hid (turnP_at HEQ.out HDR.out HST.out), Lib.hid HOK.out, Lib.hid (HAB.out.flag x.fl)⟩
          case measure => simp [intOf]; omega
      · as_aux_lemma =>
          have p1 : decide (v ≥ 30) = true := decide_eq_true (by omega)
          have p2 : decide (v ≤ 37) = true := decide_eq_true (by omega)
          have p3 : decide (v ≥ 90) = false := decide_eq_false (by omega)
          have p4 : decide (v ≤ 97) = true := decide_eq_true (by omega)
          have p5 : decide (v ≥ 40) = false := decide_eq_false (by omega)
          have p6 : decide (v ≤ 47) = true := decide_eq_true (by omega)
          have p7 : decide (v ≥ 100) = false := decide_eq_false (by omega)
          have p8 : decide (v ≤ 107) = true := decide_eq_true (by omega)
          have HX : Hid ((⟨namedK x.fk v, namedN x.fn v, namedK x.bk (v - 10), namedN x.bn (v - 10), x.fl⟩ : AT) = ⟨1, (v - 30), x.bk, x.bn, x.fl⟩) := Lib.hid (by
            unfold namedK namedN
            congr 1
            · exact if_pos (by omega)
            · exact (if_pos (by omega)).trans (by omega)
            · exact (if_neg (by omega)).trans ((if_neg (by omega)).trans (if_neg (by omega)))
            · exact (if_neg (by omega)).trans ((if_neg (by omega)).trans (if_neg (by omega))))
          have q1 : IntKind.i64.wrap (v - 30) = v - 30 := IntWalk.i64_in _ (by omega)
          rw [HX.out] at HST
          clear hvz hv38 hv48 r0 hn1 hn2 hn3 hn4 hn5 hn6 hn7 hn8 hn9 hn21 hn22 hn23 hn24 hn25 hn27 hn28 hn29 hn53 hn55 hn39 hn49 hrg HX
          go_wp2_with (go_at_call 27; (with_reducible refine (HAT.out _ HAB.out.below).mono ?_); rintro e w2 ⟨rfl, rfl⟩)
          go_roundw
          case rel => exact ⟨i + 1, ⟨1, (v - 30), x.bk, x.bn, x.fl⟩, by go_num, by omega, Lib.hid (turnP_at HEQ.out HDR.out HST.out), Lib.hid HOK.out, Lib.hid ((HAB.out.flag x.fl).fore 1 (v - 30))⟩
          case measure => simp [intOf]; omega
      · exfalso; omega
      · as_aux_lemma =>
          have p1 : decide (v ≥ 30) = true := decide_eq_true (by omega)
          have p2 : decide (v ≤ 37) = false := decide_eq_false (by omega)
          have p3 : decide (v ≥ 90) = false := decide_eq_false (by omega)
          have p4 : decide (v ≤ 97) = true := decide_eq_true (by omega)
          have p5 : decide (v ≥ 40) = true := decide_eq_true (by omega)
          have p6 : decide (v ≤ 47) = true := decide_eq_true (by omega)
          have p7 : decide (v ≥ 100) = false := decide_eq_false (by omega)
          have p8 : decide (v ≤ 107) = true := decide_eq_true (by omega)
          have HX : Hid ((⟨namedK x.fk v, namedN x.fn v, namedK x.bk (v - 10), namedN x.bn (v - 10), x.fl⟩ : AT) = ⟨x.fk, x.fn, 1, (v - 40), x.fl⟩) := Lib.hid (by
            unfold namedK namedN
            congr 1
            · exact (if_neg (by omega)).trans ((if_neg (by omega)).trans (if_neg (by omega)))
            · exact (if_neg (by omega)).trans ((if_neg (by omega)).trans (if_neg (by omega)))
            · exact if_pos (by omega)
            · exact (if_pos (by omega)).trans (by omega))
          have q1 : IntKind.i64.wrap (v - 40) = v - 40 := IntWalk.i64_in _ (by omega)
          rw [HX.out] at HST
          clear hvz hv38 hv48 r0 hn1 hn2 hn3 hn4 hn5 hn6 hn7 hn8 hn9 hn21 hn22 hn23 hn24 hn25 hn27 hn28 hn29 hn53 hn55 hn39 hn49 hrg HX
          go_wp2_with (go_at_call 27; (with_reducible refine (HAT.out _ HAB.out.below).mono ?_); rintro e w2 ⟨rfl, rfl⟩)
          go_roundw
          case rel => exact ⟨i + 1, ⟨x.fk, x.fn, 1, (v - 40), x.fl⟩, by go_num, by omega, Lib.hid (turnP_at HEQ.out HDR.out HST.out), Lib.hid HOK.out, Lib.hid ((HAB.out.flag x.fl).back 1 (v - 40))⟩
          case measure => simp [intOf]; omega
      · as_aux_lemma =>
          have p1 : decide (v ≥ 30) = true := decide_eq_true (by omega)
          have p2 : decide (v ≤ 37) = false := decide_eq_false (by omega)
          have p3 : decide (v ≥ 90) = false := decide_eq_false (by omega)
          have p4 : decide (v ≤ 97) = true := decide_eq_true (by omega)
          have p5 : decide (v ≥ 40) = true := decide_eq_true (by omega)
          have p6 : decide (v ≤ 47) = false := decide_eq_false (by omega)
          have p7 : decide (v ≥ 100) = false := decide_eq_false (by omega)
          have p8 : decide (v ≤ 107) = true := decide_eq_true (by omega)
          have HX : Hid ((⟨namedK x.fk v, namedN x.fn v, namedK x.bk (v - 10), namedN x.bn (v - 10), x.fl⟩ : AT) = ⟨x.fk, x.fn, x.bk, x.bn, x.fl⟩) := Lib.hid (by
            unfold namedK namedN
            congr 1
            · exact (if_neg (by omega)).trans ((if_neg (by omega)).trans (if_neg (by omega)))
            · exact (if_neg (by omega)).trans ((if_neg (by omega)).trans (if_neg (by omega)))
            · exact (if_neg (by omega)).trans ((if_neg (by omega)).trans (if_neg (by omega)))
            · exact (if_neg (by omega)).trans ((if_neg (by omega)).trans (if_neg (by omega))))
          rw [HX.out] at HST
          clear hvz hv38 hv48 r0 hn1 hn2 hn3 hn4 hn5 hn6 hn7 hn8 hn9 hn21 hn22 hn23 hn24 hn25 hn27 hn28 hn29 hn53 hn55 hn39 hn49 hrg HX
          go_wp2_with (go_at_call 27; (with_reducible refine (HAT.out _ HAB.out.below).mono ?_); rintro e w2 ⟨rfl, rfl⟩)
          go_roundw
          case rel => exact ⟨i + 1, ⟨x.fk, x.fn, x.bk, x.bn, x.fl⟩, by go_num, by omega, Lib.hid (turnP_at HEQ.out HDR.out HST.out), Lib.hid HOK.out, Lib.hid (HAB.out.flag x.fl)⟩
          case measure => simp [intOf]; omega
      · as_aux_lemma =>
          have p1 : decide (v ≥ 30) = true := decide_eq_true (by omega)
          have p2 : decide (v ≤ 37) = false := decide_eq_false (by omega)
          have p3 : decide (v ≥ 90) = true := decide_eq_true (by omega)
          have p4 : decide (v ≤ 97) = true := decide_eq_true (by omega)
          have p5 : decide (v ≥ 40) = true := decide_eq_true (by omega)
          have p6 : decide (v ≤ 47) = false := decide_eq_false (by omega)
          have p7 : decide (v ≥ 100) = false := decide_eq_false (by omega)
          have p8 : decide (v ≤ 107) = true := decide_eq_true (by omega)
          have HX : Hid ((⟨namedK x.fk v, namedN x.fn v, namedK x.bk (v - 10), namedN x.bn (v - 10), x.fl⟩ : AT) = ⟨1, (v - 82), x.bk, x.bn, x.fl⟩) := Lib.hid (by
            unfold namedK namedN
            congr 1
            · exact (if_neg (by omega)).trans (if_pos (by omega))
            · exact (if_neg (by omega)).trans ((if_pos (by omega)).trans (by omega))
            · exact (if_neg (by omega)).trans ((if_neg (by omega)).trans (if_neg (by omega)))
            · exact (if_neg (by omega)).trans ((if_neg (by omega)).trans (if_neg (by omega))))
          have q1 : IntKind.i64.wrap (v - 82) = v - 82 := IntWalk.i64_in _ (by omega)
          rw [HX.out] at HST
          clear hvz hv38 hv48 r0 hn1 hn2 hn3 hn4 hn5 hn6 hn7 hn8 hn9 hn21 hn22 hn23 hn24 hn25 hn27 hn28 hn29 hn53 hn55 hn39 hn49 hrg HX
          go_wp2_with (go_at_call 27; (with_reducible refine (HAT.out _ HAB.out.below).mono ?_); rintro e w2 ⟨rfl, rfl⟩)
          go_roundw
          case rel => exact ⟨i + 1, ⟨1, (v - 82), x.bk, x.bn, x.fl⟩, by go_num, by omega, Lib.hid (turnP_at HEQ.out HDR.out HST.out), Lib.hid HOK.out, Lib.hid ((HAB.out.flag x.fl).fore 1 (v - 82))⟩
          case measure => simp [intOf]; omega
      · as_aux_lemma =>
          have p1 : decide (v ≥ 30) = true := decide_eq_true (by omega)
          have p2 : decide (v ≤ 37) = false := decide_eq_false (by omega)
          have p3 : decide (v ≥ 90) = true := decide_eq_true (by omega)
          have p4 : decide (v ≤ 97) = false := decide_eq_false (by omega)
          have p5 : decide (v ≥ 40) = true := decide_eq_true (by omega)
          have p6 : decide (v ≤ 47) = false := decide_eq_false (by omega)
          have p7 : decide (v ≥ 100) = false := decide_eq_false (by omega)
          have p8 : decide (v ≤ 107) = true := decide_eq_true (by omega)
          have HX : Hid ((⟨namedK x.fk v, namedN x.fn v, namedK x.bk (v - 10), namedN x.bn (v - 10), x.fl⟩ : AT) = ⟨x.fk, x.fn, x.bk, x.bn, x.fl⟩) := Lib.hid (by
            unfold namedK namedN
            congr 1
            · exact (if_neg (by omega)).trans ((if_neg (by omega)).trans (if_neg (by omega)))
            · exact (if_neg (by omega)).trans ((if_neg (by omega)).trans (if_neg (by omega)))
            · exact (if_neg (by omega)).trans ((if_neg (by omega)).trans (if_neg (by omega)))
            · exact (if_neg (by omega)).trans ((if_neg (by omega)).trans (if_neg (by omega))))
          rw [HX.out] at HST
          clear hvz hv38 hv48 r0 hn1 hn2 hn3 hn4 hn5 hn6 hn7 hn8 hn9 hn21 hn22 hn23 hn24 hn25 hn27 hn28 hn29 hn53 hn55 hn39 hn49 hrg HX
          go_wp2_with (go_at_call 27; (with_reducible refine (HAT.out _ HAB.out.below).mono ?_); rintro e w2 ⟨rfl, rfl⟩)
          go_roundw
          case rel => exact ⟨i + 1, ⟨x.fk, x.fn, x.bk, x.bn, x.fl⟩, by go_num, by omega, Lib.hid (turnP_at HEQ.out HDR.out HST.out), Lib.hid HOK.out, Lib.hid (HAB.out.flag x.fl)⟩
          case measure => simp [intOf]; omega
      · as_aux_lemma =>
          have p1 : decide (v ≥ 30) = true := decide_eq_true (by omega)
          have p2 : decide (v ≤ 37) = false := decide_eq_false (by omega)
          have p3 : decide (v ≥ 90) = true := decide_eq_true (by omega)
          have p4 : decide (v ≤ 97) = false := decide_eq_false (by omega)
          have p5 : decide (v ≥ 40) = true := decide_eq_true (by omega)
          have p6 : decide (v ≤ 47) = false := decide_eq_false (by omega)
          have p7 : decide (v ≥ 100) = true := decide_eq_true (by omega)
          have p8 : decide (v ≤ 107) = true := decide_eq_true (by omega)
          have HX : Hid ((⟨namedK x.fk v, namedN x.fn v, namedK x.bk (v - 10), namedN x.bn (v - 10), x.fl⟩ : AT) = ⟨x.fk, x.fn, 1, (v - 92), x.fl⟩) := Lib.hid (by
            unfold namedK namedN
            congr 1
            · exact (if_neg (by omega)).trans ((if_neg (by omega)).trans (if_neg (by omega)))
            · exact (if_neg (by omega)).trans ((if_neg (by omega)).trans (if_neg (by omega)))
            · exact (if_neg (by omega)).trans (if_pos (by omega))
            · exact (if_neg (by omega)).trans ((if_pos (by omega)).trans (by omega)))
          have q1 : IntKind.i64.wrap (v - 92) = v - 92 := IntWalk.i64_in _ (by omega)
          rw [HX.out] at HST
          clear hvz hv38 hv48 r0 hn1 hn2 hn3 hn4 hn5 hn6 hn7 hn8 hn9 hn21 hn22 hn23 hn24 hn25 hn27 hn28 hn29 hn53 hn55 hn39 hn49 hrg HX
          go_wp2_with (go_at_call 27; (with_reducible refine (HAT.out _ HAB.out.below).mono ?_); rintro e w2 ⟨rfl, rfl⟩)
          go_roundw
          case rel => exact ⟨i + 1, ⟨x.fk, x.fn, 1, (v - 92), x.fl⟩, by go_num, by omega, Lib.hid (turnP_at HEQ.out HDR.out HST.out), Lib.hid HOK.out, Lib.hid ((HAB.out.flag x.fl).back 1 (v - 92))⟩
          case measure => simp [intOf]; omega
      · as_aux_lemma =>
          have p1 : decide (v ≥ 30) = true := decide_eq_true (by omega)
          have p2 : decide (v ≤ 37) = false := decide_eq_false (by omega)
          have p3 : decide (v ≥ 90) = true := decide_eq_true (by omega)
          have p4 : decide (v ≤ 97) = false := decide_eq_false (by omega)
          have p5 : decide (v ≥ 40) = true := decide_eq_true (by omega)
          have p6 : decide (v ≤ 47) = false := decide_eq_false (by omega)
          have p7 : decide (v ≥ 100) = true := decide_eq_true (by omega)
          have p8 : decide (v ≤ 107) = false := decide_eq_false (by omega)
          have HX : Hid ((⟨namedK x.fk v, namedN x.fn v, namedK x.bk (v - 10), namedN x.bn (v - 10), x.fl⟩ : AT) = ⟨x.fk, x.fn, x.bk, x.bn, x.fl⟩) := Lib.hid (by
            unfold namedK namedN
            congr 1
            · exact (if_neg (by omega)).trans ((if_neg (by omega)).trans (if_neg (by omega)))
            · exact (if_neg (by omega)).trans ((if_neg (by omega)).trans (if_neg (by omega)))
            · exact (if_neg (by omega)).trans ((if_neg (by omega)).trans (if_neg (by omega)))
            · exact (if_neg (by omega)).trans ((if_neg (by omega)).trans (if_neg (by omega))))
          rw [HX.out] at HST
          clear hvz hv38 hv48 r0 hn1 hn2 hn3 hn4 hn5 hn6 hn7 hn8 hn9 hn21 hn22 hn23 hn24 hn25 hn27 hn28 hn29 hn53 hn55 hn39 hn49 hrg HX
          go_wp2_with (go_at_call 27; (with_reducible refine (HAT.out _ HAB.out.below).mono ?_); rintro e w2 ⟨rfl, rfl⟩)
          go_roundw
          case rel => exact ⟨i + 1, ⟨x.fk, x.fn, x.bk, x.bn, x.fl⟩, by go_num, by omega, Lib.hid (turnP_at HEQ.out HDR.out HST.out), Lib.hid HOK.out, Lib.hid (HAB.out.flag x.fl)⟩
          case measure => simp [intOf]; omega
    · have HE : Hid (fin = x) := Lib.hid (by rw [← HFIN.out]; exact turnP_end HEQ.out (by have := HN.out; omega))
      obtain ⟨⟨y0, y1, y2, y3, y4⟩, g0, g1, g2, g3, g4⟩ := HAB.out.outs
      have hge : (n : Int) ≤ i := by omega
      clear HR HCL HEQ
      go_wp2
      refine bodyPost_ret (v := .agg #[.int .i64 fin.fk, .int .i64 fin.fn, .int .i64 fin.bk, .int .i64 fin.bn, .int .i64 fin.fl]) (by rw [HE.out]; simp [results, Tryd.results14, go_sem, y0, y1, y2, y3, y4]) rfl ⟨rfl, ?_⟩
      exact res5 HAB.out.below _ _ _ _ _

end Go.Proofs.YtlndmfbopopmmaaDoor
