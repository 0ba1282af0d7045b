/- The walk of the document's Close. -/
import Derived.Test.YtoiekhjmfoodiaaDoorHd
import Derived.Test.YtoiekhjmfoodiaaDoorHg
import Derived.Test.YtoiekhjmfoodiaaDoorGj
namespace Go.Proofs.YtoiekhjmfoodiaaDoor
open Go.RowKit

set_option maxRecDepth 100000 in
set_option maxHeartbeats 4000000 in
theorem refClose_any (A : Option Addr) (l : List CC) (n c : Nat) (hn : n = l.length) (hl : n ≤ 1000) (w : World) (h : RC w w.heap.size A l) :
    Calls Tryd.prog 46 #[.slice A n c] w fun e w' => ∃ v, e = .returned v ∧ OC w.heap.size w' v (closeRow l) ∧ Below w.heap.size w w' := by
  have HM := Lib.hid (refMend_any A l n c hn hl _ h)
  have hlen : (mendL l).length = n := by rw [mendL_len, hn]
  by_cases h0 : 0 < n
  · have HF : Hid (∀ W v B, OC B W v (mendL l) → ∃ g c', v = .slice (some ⟨g, 0, none⟩) n c' ∧ B ≤ g ∧ n ≤ c' ∧ MC W g (mendL l)) := Lib.hid fun W v B ho => by
      obtain ⟨g, c', e, h1, h2, h3⟩ := ho.some (by omega)
      exact ⟨g, c', by rw [e, hlen], h1, by omega, h3⟩
    obtain ⟨x, hx⟩ : ∃ x : Nat, n = x + 1 := ⟨n - 1, by omega⟩
    have hcr : closeRow l = mendL ((mendL l).set x padC) := by unfold closeRow; rw [if_pos (by omega), show l.length - 1 = x by omega]
    rw [hcr]
    have HE : Hid (∀ W g c', MC W g ((mendL l).set x padC) → Calls Tryd.prog 13 #[.slice (some ⟨g, 0, none⟩) n c'] W fun e w' => ∃ v, e = .returned v ∧ OC W.heap.size w' v (mendL ((mendL l).set x padC)) ∧ Below W.heap.size W w') := Lib.hid fun W g c' hm => refMend_any _ _ n c' (by rw [List.length_set, hlen]) hl W hm.rc
    have HA : Hid (∀ W g, MC W g (mendL l) → C8 W g (x * 8) (Ac (mendL l) x) ∧ g < W.heap.size ∧ (∀ k, W.frozen? ⟨g, k, none⟩ = false) ∧ MC (set8 W g (x * 8) padC) g ((mendL l).set x padC) ∧ KG g W (set8 W g (x * 8) padC)) := Lib.hid fun W g hm => ⟨hm.at' x (by omega), hm.lt, hm.free, hm.set x (by omega) padC, (KG.refl g W).set8 _ _⟩
    have hw : IntKind.i64.wrap ((n : Int) - 1) = (x : Int) := by rw [IntKind.wrap_i64]; omega
    have hp : (0 : Int) < n := by omega
    have hxn : (x : Int) < n := by omega
    generalize (mendL l).set x padC = l2 at *
    generalize mendL l = l1 at *
    generalize mendL l2 = l3 at *
    generalize Ac l1 x = y at *
    clear h hn hl hlen h0 hx hcr
    go_enter Tryd.func46, Tryd.ntmps46
    go_wp2_with (first
      | (go_at_call 13; (with_reducible refine (HM.out).mono ?_); rintro e w1 ⟨v, rfl, ho, hb⟩; obtain ⟨g, c', rfl, hg, hc', hm⟩ := HF.out _ _ _ ho; have HB1 := Lib.hid hb; obtain ⟨⟨a0, a1, a2, a3, a4, a5, a6, a7⟩, hgl, hfr, hm2, hk2⟩ := HA.out _ _ hm; simp only [set8, padC] at hm2 hk2; have HM2 := Lib.hid hm2; have HK2 := Lib.hid hk2; clear ho hb hm hm2 hk2)
      | (go_at_call 13; (with_reducible refine (HE.out _ _ _ HM2.out).mono ?_); rintro e w2 ⟨v, rfl, ho, hb⟩; have HO := Lib.hid ho; have HB2 := Lib.hid hb; clear ho hb))
    go_ret
    exact ⟨_, rfl, HO.out.lower (Nat.le_trans HB1.out.size HK2.out.size), Below.ofKG HB1.out (HK2.out.trans ((KG.refl g _).past HB2.out)) hg HB1.out.size⟩
  · have hl0 : l = [] := List.eq_nil_of_length_eq_zero (by omega)
    subst hl0
    have hn0 : n = 0 := hn
    subst hn0
    have HF : Hid (∀ W v B, OC B W v (mendL []) → ∃ A' c', v = .slice A' 0 c' ∧ RC W W.heap.size A' []) := Lib.hid fun W v B ho => by
      obtain ⟨A', c', e, hr⟩ := ho.form
      exact ⟨A', c', e, hr⟩
    have HE : Hid (∀ W A' c', Calls Tryd.prog 13 #[.slice A' 0 c'] W fun e w' => ∃ v, e = .returned v ∧ OC W.heap.size w' v (mendL []) ∧ Below W.heap.size W w') := Lib.hid fun W A' c' => refMend_any A' [] 0 c' rfl (by decide) W (fun h => absurd rfl h)
    have hcr : closeRow [] = mendL [] := rfl
    rw [hcr]
    clear h hl hlen h0 hn hcr
    generalize mendL [] = l1 at *
    go_enter Tryd.func46, Tryd.ntmps46
    go_wp2_with (first
      | (go_at_call 13; (with_reducible refine (HM.out).mono ?_); rintro e w1 ⟨v, rfl, ho, hb⟩; obtain ⟨A', c', rfl, _⟩ := HF.out _ _ _ ho; have HB1 := Lib.hid hb; clear ho hb HM)
      | (go_at_call 13; (with_reducible refine (HE.out _ _ _).mono ?_); rintro e w2 ⟨v, rfl, ho, hb⟩; have HO := Lib.hid ho; have HB2 := Lib.hid hb; clear ho hb))
    go_ret
    exact ⟨_, rfl, HO.out.lower HB1.out.size, bel0 HB1.out HB2.out⟩
end Go.Proofs.YtoiekhjmfoodiaaDoor

namespace Go.Proofs.YtoiekhjmfoodiaaDoor
open Go.RowKit

set_option maxRecDepth 100000 in
set_option maxHeartbeats 4000000 in
theorem refPut_one (A : Option Addr) (l : List CC) (n c : Nat) (z : Int) (x0 : CC) (hn : n = l.length) (hl : n ≤ 1000) (x : Nat) (hz : z = (x : Int)) (hx : x < n) (hw : ofZ x0.r = 1) (w : World) (h : RC w w.heap.size A l) :
    Calls Tryd.prog 41 #[.slice A n c, .int .i64 z, .int .i32 x0.r, .agg #[.int .i64 x0.fk, .int .i64 x0.fn, .int .i64 x0.bk, .int .i64 x0.bn, .int .i64 x0.fl]] w fun e w' => ∃ v, e = .returned v ∧ OC w.heap.size w' v (mendL ((mendL l).set x (putC x0))) ∧ Below w.heap.size w w' := by
  have hb1 := belA (Below.refl w.heap.size w) (.cells #[.int .i64 x0.fk, .int .i64 x0.fn, .int .i64 x0.bk, .int .i64 x0.bn, .int .i64 x0.fl] 35)
  have HB0 := Lib.hid hb1
  have HX0 := Lib.hid (heap_alloc_new w (.cells #[.int .i64 x0.fk, .int .i64 x0.fn, .int .i64 x0.bk, .int .i64 x0.bn, .int .i64 x0.fl] 35))
  have hs0 : (w.alloc (.cells #[.int .i64 x0.fk, .int .i64 x0.fn, .int .i64 x0.bk, .int .i64 x0.bn, .int .i64 x0.fl] 35)).heap.size = w.heap.size + 1 := by simp
  have HM := Lib.hid (refMend_any A l n c hn hl _ (h.past hb1))
  have hlen : (mendL l).length = n := by rw [mendL_len, hn]
  have HOF := Lib.hid (refOf_any x0.r)
  rw [hw] at HOF
  have HF : Hid (∀ W v B, OC B W v (mendL l) → ∃ g c', v = .slice (some ⟨g, 0, none⟩) n c' ∧ B ≤ g ∧ n ≤ c' ∧ MC W g (mendL l)) := Lib.hid fun W v B ho => by
    obtain ⟨g, c', e, h1, h2, h3⟩ := ho.some (by omega)
    exact ⟨g, c', by rw [e, hlen], h1, by omega, h3⟩
  have HE : Hid (∀ W g c', MC W g ((mendL l).set x (putC x0)) → Calls Tryd.prog 13 #[.slice (some ⟨g, 0, none⟩) n c'] W fun e w' => ∃ v, e = .returned v ∧ OC W.heap.size w' v (mendL ((mendL l).set x (putC x0))) ∧ Below W.heap.size W w') := Lib.hid fun W g c' hm => refMend_any _ _ n c' (by rw [List.length_set, hlen]) hl W hm.rc
  have HA : Hid (∀ W g, MC W g (mendL l) → C8 W g (x * 8) (Ac (mendL l) x) ∧ g < W.heap.size ∧ (∀ k, W.frozen? ⟨g, k, none⟩ = false) ∧ MC (set8 W g (x * 8) (putC x0)) g ((mendL l).set x (putC x0)) ∧ KG g W (set8 W g (x * 8) (putC x0))) := Lib.hid fun W g hm => ⟨hm.at' x (by omega), hm.lt, hm.free, hm.set x (by omega) (putC x0), (KG.refl g W).set8 _ _⟩
  have hp : (0 : Int) ≤ x := by omega
  have hp' : decide ((0 : Int) ≤ x) = true := decide_eq_true hp
  have hxn : (x : Int) < n := by omega
  have hxn' : decide ((x : Int) < n) = true := decide_eq_true hxn
  subst hz
  generalize (mendL l).set x (putC x0) = l2 at *
  generalize mendL l = l1 at *
  generalize mendL l2 = l3 at *
  generalize Ac l1 x = y at *
  clear h hn hl hlen hw hb1
  go_enter Tryd.func41, Tryd.ntmps41
  go_wp2_with (first
    | (go_at_call 13; (with_reducible refine (HM.out).mono ?_); rintro e w1 ⟨v, rfl, ho, hb⟩; obtain ⟨g, c', rfl, hg, hc', hm⟩ := HF.out _ _ _ ho; have HB1 := Lib.hid (bel0 HB0.out hb); have HX1 := Lib.hid ((hb.block w.heap.size (by omega)).trans HX0.out); have HM1 := Lib.hid hm; clear ho hb hm HM)
    | (go_at_call 27; (with_reducible refine (HOF.out _).mono ?_); rintro e w2 ⟨rfl, hb⟩; have HB2 := Lib.hid (bel0 HB1.out hb); have hx2 := (hb.block w.heap.size (Array.getElem?_eq_some_iff.1 HX1.out).1).trans HX1.out; have d0 := cell_of_row _ _ 0 _ _ _ hx2; have d1 := cell_of_row _ _ 1 _ _ _ hx2; have d2 := cell_of_row _ _ 2 _ _ _ hx2; have d3 := cell_of_row _ _ 3 _ _ _ hx2; have d4 := cell_of_row _ _ 4 _ _ _ hx2; obtain ⟨⟨a0, a1, a2, a3, a4, a5, a6, a7⟩, hgl, hfr, hm2, hk2⟩ := HA.out _ _ (HM1.out.past hb); simp only [set8, putC] at hm2 hk2; have HM2 := Lib.hid hm2; have HK2 := Lib.hid hk2; clear hb hx2 hm2 hk2)
    | (go_at_call 13; (with_reducible refine (HE.out _ _ _ HM2.out).mono ?_); rintro e w3 ⟨v, rfl, ho, hb⟩; have HO := Lib.hid ho; have HB3 := Lib.hid hb; clear ho hb))
  go_ret
  exact ⟨_, rfl, HO.out.lower (Nat.le_trans HB2.out.size HK2.out.size), Below.ofKG HB2.out (HK2.out.trans ((KG.refl g _).past HB3.out)) (by have := HB0.out.size; omega) HB2.out.size⟩
end Go.Proofs.YtoiekhjmfoodiaaDoor

namespace Go.Proofs.YtoiekhjmfoodiaaDoor
open Go.RowKit

set_option maxRecDepth 100000 in
set_option maxHeartbeats 4000000 in
theorem refPut_two (A : Option Addr) (l : List CC) (n c : Nat) (z : Int) (x0 : CC) (hn : n = l.length) (hl : n ≤ 1000) (x : Nat) (hz : z = (x : Int)) (hx : x + 1 < n) (hw : ofZ x0.r = 2) (w : World) (h : RC w w.heap.size A l) :
    Calls Tryd.prog 41 #[.slice A n c, .int .i64 z, .int .i32 x0.r, .agg #[.int .i64 x0.fk, .int .i64 x0.fn, .int .i64 x0.bk, .int .i64 x0.bn, .int .i64 x0.fl]] w fun e w' => ∃ v, e = .returned v ∧ OC w.heap.size w' v (mendL (((mendL l).set x (leftC x0)).set (x + 1) (rightC x0))) ∧ Below w.heap.size w w' := by
  have hb1 := belA (Below.refl w.heap.size w) (.cells #[.int .i64 x0.fk, .int .i64 x0.fn, .int .i64 x0.bk, .int .i64 x0.bn, .int .i64 x0.fl] 35)
  have HB0 := Lib.hid hb1
  have HX0 := Lib.hid (heap_alloc_new w (.cells #[.int .i64 x0.fk, .int .i64 x0.fn, .int .i64 x0.bk, .int .i64 x0.bn, .int .i64 x0.fl] 35))
  have hs0 : (w.alloc (.cells #[.int .i64 x0.fk, .int .i64 x0.fn, .int .i64 x0.bk, .int .i64 x0.bn, .int .i64 x0.fl] 35)).heap.size = w.heap.size + 1 := by simp
  have HM := Lib.hid (refMend_any A l n c hn hl _ (h.past hb1))
  have hlen : (mendL l).length = n := by rw [mendL_len, hn]
  have HOF := Lib.hid (refOf_any x0.r)
  rw [hw] at HOF
  have HF : Hid (∀ W v B, OC B W v (mendL l) → ∃ g c', v = .slice (some ⟨g, 0, none⟩) n c' ∧ B ≤ g ∧ n ≤ c' ∧ MC W g (mendL l)) := Lib.hid fun W v B ho => by
    obtain ⟨g, c', e, h1, h2, h3⟩ := ho.some (by omega)
    exact ⟨g, c', by rw [e, hlen], h1, by omega, h3⟩
  have HE : Hid (∀ W g c', MC W g (((mendL l).set x (leftC x0)).set (x + 1) (rightC x0)) → Calls Tryd.prog 13 #[.slice (some ⟨g, 0, none⟩) n c'] W fun e w' => ∃ v, e = .returned v ∧ OC W.heap.size w' v (mendL (((mendL l).set x (leftC x0)).set (x + 1) (rightC x0))) ∧ Below W.heap.size W w') := Lib.hid fun W g c' hm => refMend_any _ _ n c' (by rw [List.length_set, List.length_set, hlen]) hl W hm.rc
  have HA : Hid (∀ W g, MC W g (mendL l) → C8 W g (x * 8) (Ac (mendL l) x) ∧ C8 W g ((x + 1) * 8) (Ac (mendL l) (x + 1)) ∧ g < W.heap.size ∧ (∀ k, W.frozen? ⟨g, k, none⟩ = false) ∧ MC (set8 (set8 W g (x * 8) (leftC x0)) g ((x + 1) * 8) (rightC x0)) g (((mendL l).set x (leftC x0)).set (x + 1) (rightC x0)) ∧ KG g W (set8 (set8 W g (x * 8) (leftC x0)) g ((x + 1) * 8) (rightC x0))) := Lib.hid fun W g hm => ⟨hm.at' x (by omega), hm.at' (x + 1) (by omega), hm.lt, hm.free, (hm.set x (by omega) (leftC x0)).set (x + 1) (by rw [List.length_set]; omega) (rightC x0), ((KG.refl g W).set8 _ _).set8 _ _⟩
  have hp : (0 : Int) ≤ x := by omega
  have hp' : decide ((0 : Int) ≤ x) = true := decide_eq_true hp
  have hxn : (x : Int) < n := by omega
  have hx1 : (x : Int) + 1 < n := by omega
  have hw1 : IntKind.i64.wrap ((n : Int) - 1) = (n : Int) - 1 := by rw [IntKind.wrap_i64]; omega
  have hw2 : IntKind.i64.wrap ((x : Int) + 1) = (x : Int) + 1 := by rw [IntKind.wrap_i64]; omega
  have hxn' : decide ((x : Int) < (n : Int) - 1) = true := decide_eq_true (by omega)
  have hnat : ((x : Int) + 1).toNat = x + 1 := by omega
  have hp1 : (0 : Int) ≤ (x : Int) + 1 := by omega
  subst hz
  generalize ((mendL l).set x (leftC x0)).set (x + 1) (rightC x0) = l2 at *
  generalize mendL l = l1 at *
  generalize mendL l2 = l3 at *
  generalize Ac l1 x = y at *
  generalize Ac l1 (x + 1) = y1 at *
  clear h hn hl hlen hw hb1
  go_enter Tryd.func41, Tryd.ntmps41
  go_wp2_with (first
    | (go_at_call 13; (with_reducible refine (HM.out).mono ?_); rintro e w1 ⟨v, rfl, ho, hb⟩; obtain ⟨g, c', rfl, hg, hc', hm⟩ := HF.out _ _ _ ho; have HB1 := Lib.hid (bel0 HB0.out hb); have HX1 := Lib.hid ((hb.block w.heap.size (by omega)).trans HX0.out); have HM1 := Lib.hid hm; clear ho hb hm HM)
    | (go_at_call 27; (with_reducible refine (HOF.out _).mono ?_); rintro e w2 ⟨rfl, hb⟩; have HB2 := Lib.hid (bel0 HB1.out hb); have hx2 := (hb.block w.heap.size (Array.getElem?_eq_some_iff.1 HX1.out).1).trans HX1.out; have d0 := cell_of_row _ _ 0 _ _ _ hx2; have d1 := cell_of_row _ _ 1 _ _ _ hx2; have d2 := cell_of_row _ _ 2 _ _ _ hx2; have d3 := cell_of_row _ _ 3 _ _ _ hx2; have d4 := cell_of_row _ _ 4 _ _ _ hx2; obtain ⟨⟨a0, a1, a2, a3, a4, a5, a6, a7⟩, ⟨q0, q1, q2, q3, q4, q5, q6, q7⟩, hgl, hfr, hm2, hk2⟩ := HA.out _ _ (HM1.out.past hb); simp only [set8, leftC, rightC] at hm2 hk2; have hgne : g ≠ w.heap.size := (by omega); have hgne' : w.heap.size ≠ g := (by omega); have HM2 := Lib.hid hm2; have HK2 := Lib.hid hk2; clear hb hx2 hm2 hk2)
    | (go_at_call 13; (with_reducible refine (HE.out _ _ _ HM2.out).mono ?_); rintro e w3 ⟨v, rfl, ho, hb⟩; have HO := Lib.hid ho; have HB3 := Lib.hid hb; clear ho hb))
  go_ret
  exact ⟨_, rfl, HO.out.lower (Nat.le_trans HB2.out.size HK2.out.size), Below.ofKG HB2.out (HK2.out.trans ((KG.refl g _).past HB3.out)) (by have := HB0.out.size; omega) HB2.out.size⟩
end Go.Proofs.YtoiekhjmfoodiaaDoor

namespace Go.Proofs.YtoiekhjmfoodiaaDoor
open Go.RowKit

set_option maxRecDepth 100000 in
set_option maxHeartbeats 4000000 in
theorem refPut_v0 (A : Option Addr) (l : List CC) (n c : Nat) (z : Int) (x0 : CC) (hn : n = l.length) (hl : n ≤ 1000) (hw1 : ofZ x0.r ≠ 1) (hw2 : ofZ x0.r ≠ 2) (w : World) (h : RC w w.heap.size A l) :
    Calls Tryd.prog 41 #[.slice A n c, .int .i64 z, .int .i32 x0.r, .agg #[.int .i64 x0.fk, .int .i64 x0.fn, .int .i64 x0.bk, .int .i64 x0.bn, .int .i64 x0.fl]] w fun e w' => ∃ v, e = .returned v ∧ OC w.heap.size w' v (mendL l) ∧ Below w.heap.size w w' := by
  have hb1 := belA (Below.refl w.heap.size w) (.cells #[.int .i64 x0.fk, .int .i64 x0.fn, .int .i64 x0.bk, .int .i64 x0.bn, .int .i64 x0.fl] 35)
  have HB0 := Lib.hid hb1
  have HM := Lib.hid (refMend_any A l n c hn hl _ (h.past hb1))
  have hlen : (mendL l).length = n := by rw [mendL_len, hn]
  have HOF := Lib.hid (refOf_any x0.r)
  have HF : Hid (∀ W v B, OC B W v (mendL l) → ∃ A' c', v = .slice A' n c' ∧ RC W W.heap.size A' (mendL l)) := Lib.hid fun W v B ho => by
    obtain ⟨A', c', e, hr⟩ := ho.form
    exact ⟨A', c', by rw [e, hlen], hr⟩
  have HE : Hid (∀ W A' c', RC W W.heap.size A' (mendL l) → Calls Tryd.prog 13 #[.slice A' n c'] W fun e w' => ∃ v, e = .returned v ∧ OC W.heap.size w' v (mendL l) ∧ Below W.heap.size W w') := Lib.hid fun W A' c' hr => by
    have hq := refMend_any A' (mendL l) n c' hlen.symm hl W hr
    rwa [mendL_idem] at hq
  have e1 : (ofZ x0.r == 1) = false := by simpa using hw1
  have e2 : (ofZ x0.r == 2) = false := by simpa using hw2
  clear hw1 hw2
  generalize ofZ x0.r = zz at *
  generalize mendL l = l1 at *
  clear h hn hl hlen hb1
  go_enter Tryd.func41, Tryd.ntmps41
  go_wp2_with (first
    | (go_at_call 13; (with_reducible refine (HM.out).mono ?_); rintro e w1 ⟨v, rfl, ho, hb⟩; obtain ⟨A1, c1, rfl, hr⟩ := HF.out _ _ _ ho; have HB1 := Lib.hid (bel0 HB0.out hb); have HR1 := Lib.hid hr; clear ho hb hr HM)
    | (go_at_call 27; (with_reducible refine (HOF.out _).mono ?_); rintro e w2 ⟨rfl, hb⟩; have HB2 := Lib.hid (bel0 HB1.out hb); have HR2 := Lib.hid (HR1.out.past hb); clear hb)
    | (go_at_call 13; (with_reducible refine (HE.out _ _ _ HR2.out).mono ?_); rintro e w3 ⟨v, rfl, ho, hb⟩; have HO := Lib.hid ho; have HB3 := Lib.hid hb; clear ho hb))
  go_ret
  exact ⟨_, rfl, HO.out.lower HB2.out.size, bel0 HB2.out HB3.out⟩
set_option maxRecDepth 100000 in
set_option maxHeartbeats 4000000 in
theorem refPut_v1 (A : Option Addr) (l : List CC) (n c : Nat) (z : Int) (x0 : CC) (hn : n = l.length) (hl : n ≤ 1000) (hw : ofZ x0.r = 1) (hz : z < 0) (w : World) (h : RC w w.heap.size A l) :
    Calls Tryd.prog 41 #[.slice A n c, .int .i64 z, .int .i32 x0.r, .agg #[.int .i64 x0.fk, .int .i64 x0.fn, .int .i64 x0.bk, .int .i64 x0.bn, .int .i64 x0.fl]] w fun e w' => ∃ v, e = .returned v ∧ OC w.heap.size w' v (mendL l) ∧ Below w.heap.size w w' := by
  have hb1 := belA (Below.refl w.heap.size w) (.cells #[.int .i64 x0.fk, .int .i64 x0.fn, .int .i64 x0.bk, .int .i64 x0.bn, .int .i64 x0.fl] 35)
  have HB0 := Lib.hid hb1
  have HM := Lib.hid (refMend_any A l n c hn hl _ (h.past hb1))
  have hlen : (mendL l).length = n := by rw [mendL_len, hn]
  have HOF := Lib.hid (refOf_any x0.r)
  have HF : Hid (∀ W v B, OC B W v (mendL l) → ∃ A' c', v = .slice A' n c' ∧ RC W W.heap.size A' (mendL l)) := Lib.hid fun W v B ho => by
    obtain ⟨A', c', e, hr⟩ := ho.form
    exact ⟨A', c', by rw [e, hlen], hr⟩
  have HE : Hid (∀ W A' c', RC W W.heap.size A' (mendL l) → Calls Tryd.prog 13 #[.slice A' n c'] W fun e w' => ∃ v, e = .returned v ∧ OC W.heap.size w' v (mendL l) ∧ Below W.heap.size W w') := Lib.hid fun W A' c' hr => by
    have hq := refMend_any A' (mendL l) n c' hlen.symm hl W hr
    rwa [mendL_idem] at hq
  rw [hw] at HOF
  have e1 : decide (0 ≤ z) = false := decide_eq_false (by omega)
  have e2 : ¬ 0 ≤ z := by omega
  clear hw hz
  generalize mendL l = l1 at *
  clear h hn hl hlen hb1
  go_enter Tryd.func41, Tryd.ntmps41
  go_wp2_with (first
    | (go_at_call 13; (with_reducible refine (HM.out).mono ?_); rintro e w1 ⟨v, rfl, ho, hb⟩; obtain ⟨A1, c1, rfl, hr⟩ := HF.out _ _ _ ho; have HB1 := Lib.hid (bel0 HB0.out hb); have HR1 := Lib.hid hr; clear ho hb hr HM)
    | (go_at_call 27; (with_reducible refine (HOF.out _).mono ?_); rintro e w2 ⟨rfl, hb⟩; have HB2 := Lib.hid (bel0 HB1.out hb); have HR2 := Lib.hid (HR1.out.past hb); clear hb)
    | (go_at_call 13; (with_reducible refine (HE.out _ _ _ HR2.out).mono ?_); rintro e w3 ⟨v, rfl, ho, hb⟩; have HO := Lib.hid ho; have HB3 := Lib.hid hb; clear ho hb))
  go_ret
  exact ⟨_, rfl, HO.out.lower HB2.out.size, bel0 HB2.out HB3.out⟩
set_option maxRecDepth 100000 in
set_option maxHeartbeats 4000000 in
theorem refPut_v2 (A : Option Addr) (l : List CC) (n c : Nat) (z : Int) (x0 : CC) (hn : n = l.length) (hl : n ≤ 1000) (hw : ofZ x0.r = 1) (hz0 : 0 ≤ z) (hz : (n : Int) ≤ z) (w : World) (h : RC w w.heap.size A l) :
    Calls Tryd.prog 41 #[.slice A n c, .int .i64 z, .int .i32 x0.r, .agg #[.int .i64 x0.fk, .int .i64 x0.fn, .int .i64 x0.bk, .int .i64 x0.bn, .int .i64 x0.fl]] w fun e w' => ∃ v, e = .returned v ∧ OC w.heap.size w' v (mendL l) ∧ Below w.heap.size w w' := by
  have hb1 := belA (Below.refl w.heap.size w) (.cells #[.int .i64 x0.fk, .int .i64 x0.fn, .int .i64 x0.bk, .int .i64 x0.bn, .int .i64 x0.fl] 35)
  have HB0 := Lib.hid hb1
  have HM := Lib.hid (refMend_any A l n c hn hl _ (h.past hb1))
  have hlen : (mendL l).length = n := by rw [mendL_len, hn]
  have HOF := Lib.hid (refOf_any x0.r)
  have HF : Hid (∀ W v B, OC B W v (mendL l) → ∃ A' c', v = .slice A' n c' ∧ RC W W.heap.size A' (mendL l)) := Lib.hid fun W v B ho => by
    obtain ⟨A', c', e, hr⟩ := ho.form
    exact ⟨A', c', by rw [e, hlen], hr⟩
  have HE : Hid (∀ W A' c', RC W W.heap.size A' (mendL l) → Calls Tryd.prog 13 #[.slice A' n c'] W fun e w' => ∃ v, e = .returned v ∧ OC W.heap.size w' v (mendL l) ∧ Below W.heap.size W w') := Lib.hid fun W A' c' hr => by
    have hq := refMend_any A' (mendL l) n c' hlen.symm hl W hr
    rwa [mendL_idem] at hq
  rw [hw] at HOF
  have e1 : decide (0 ≤ z) = true := decide_eq_true hz0
  have e3 : decide (z < (n : Int)) = false := decide_eq_false (by omega)
  have e4 : ¬ z < (n : Int) := by omega
  clear hw hz
  generalize mendL l = l1 at *
  clear h hn hl hlen hb1
  go_enter Tryd.func41, Tryd.ntmps41
  go_wp2_with (first
    | (go_at_call 13; (with_reducible refine (HM.out).mono ?_); rintro e w1 ⟨v, rfl, ho, hb⟩; obtain ⟨A1, c1, rfl, hr⟩ := HF.out _ _ _ ho; have HB1 := Lib.hid (bel0 HB0.out hb); have HR1 := Lib.hid hr; clear ho hb hr HM)
    | (go_at_call 27; (with_reducible refine (HOF.out _).mono ?_); rintro e w2 ⟨rfl, hb⟩; have HB2 := Lib.hid (bel0 HB1.out hb); have HR2 := Lib.hid (HR1.out.past hb); clear hb)
    | (go_at_call 13; (with_reducible refine (HE.out _ _ _ HR2.out).mono ?_); rintro e w3 ⟨v, rfl, ho, hb⟩; have HO := Lib.hid ho; have HB3 := Lib.hid hb; clear ho hb))
  go_ret
  exact ⟨_, rfl, HO.out.lower HB2.out.size, bel0 HB2.out HB3.out⟩
set_option maxRecDepth 100000 in
set_option maxHeartbeats 4000000 in
theorem refPut_v3 (A : Option Addr) (l : List CC) (n c : Nat) (z : Int) (x0 : CC) (hn : n = l.length) (hl : n ≤ 1000) (hw : ofZ x0.r = 2) (hz : z < 0) (w : World) (h : RC w w.heap.size A l) :
    Calls Tryd.prog 41 #[.slice A n c, .int .i64 z, .int .i32 x0.r, .agg #[.int .i64 x0.fk, .int .i64 x0.fn, .int .i64 x0.bk, .int .i64 x0.bn, .int .i64 x0.fl]] w fun e w' => ∃ v, e = .returned v ∧ OC w.heap.size w' v (mendL l) ∧ Below w.heap.size w w' := by
  have hb1 := belA (Below.refl w.heap.size w) (.cells #[.int .i64 x0.fk, .int .i64 x0.fn, .int .i64 x0.bk, .int .i64 x0.bn, .int .i64 x0.fl] 35)
  have HB0 := Lib.hid hb1
  have HM := Lib.hid (refMend_any A l n c hn hl _ (h.past hb1))
  have hlen : (mendL l).length = n := by rw [mendL_len, hn]
  have HOF := Lib.hid (refOf_any x0.r)
  have HF : Hid (∀ W v B, OC B W v (mendL l) → ∃ A' c', v = .slice A' n c' ∧ RC W W.heap.size A' (mendL l)) := Lib.hid fun W v B ho => by
    obtain ⟨A', c', e, hr⟩ := ho.form
    exact ⟨A', c', by rw [e, hlen], hr⟩
  have HE : Hid (∀ W A' c', RC W W.heap.size A' (mendL l) → Calls Tryd.prog 13 #[.slice A' n c'] W fun e w' => ∃ v, e = .returned v ∧ OC W.heap.size w' v (mendL l) ∧ Below W.heap.size W w') := Lib.hid fun W A' c' hr => by
    have hq := refMend_any A' (mendL l) n c' hlen.symm hl W hr
    rwa [mendL_idem] at hq
  rw [hw] at HOF
  have e1 : decide (0 ≤ z) = false := decide_eq_false (by omega)
  have e2 : ¬ 0 ≤ z := by omega
  clear hw hz
  generalize mendL l = l1 at *
  clear h hn hl hlen hb1
  go_enter Tryd.func41, Tryd.ntmps41
  go_wp2_with (first
    | (go_at_call 13; (with_reducible refine (HM.out).mono ?_); rintro e w1 ⟨v, rfl, ho, hb⟩; obtain ⟨A1, c1, rfl, hr⟩ := HF.out _ _ _ ho; have HB1 := Lib.hid (bel0 HB0.out hb); have HR1 := Lib.hid hr; clear ho hb hr HM)
    | (go_at_call 27; (with_reducible refine (HOF.out _).mono ?_); rintro e w2 ⟨rfl, hb⟩; have HB2 := Lib.hid (bel0 HB1.out hb); have HR2 := Lib.hid (HR1.out.past hb); clear hb)
    | (go_at_call 13; (with_reducible refine (HE.out _ _ _ HR2.out).mono ?_); rintro e w3 ⟨v, rfl, ho, hb⟩; have HO := Lib.hid ho; have HB3 := Lib.hid hb; clear ho hb))
  go_ret
  exact ⟨_, rfl, HO.out.lower HB2.out.size, bel0 HB2.out HB3.out⟩
set_option maxRecDepth 100000 in
set_option maxHeartbeats 4000000 in
theorem refPut_v4 (A : Option Addr) (l : List CC) (n c : Nat) (z : Int) (x0 : CC) (hn : n = l.length) (hl : n ≤ 1000) (hw : ofZ x0.r = 2) (hz0 : 0 ≤ z) (hz : (n : Int) - 1 ≤ z) (w : World) (h : RC w w.heap.size A l) :
    Calls Tryd.prog 41 #[.slice A n c, .int .i64 z, .int .i32 x0.r, .agg #[.int .i64 x0.fk, .int .i64 x0.fn, .int .i64 x0.bk, .int .i64 x0.bn, .int .i64 x0.fl]] w fun e w' => ∃ v, e = .returned v ∧ OC w.heap.size w' v (mendL l) ∧ Below w.heap.size w w' := by
  have hb1 := belA (Below.refl w.heap.size w) (.cells #[.int .i64 x0.fk, .int .i64 x0.fn, .int .i64 x0.bk, .int .i64 x0.bn, .int .i64 x0.fl] 35)
  have HB0 := Lib.hid hb1
  have HM := Lib.hid (refMend_any A l n c hn hl _ (h.past hb1))
  have hlen : (mendL l).length = n := by rw [mendL_len, hn]
  have HOF := Lib.hid (refOf_any x0.r)
  have HF : Hid (∀ W v B, OC B W v (mendL l) → ∃ A' c', v = .slice A' n c' ∧ RC W W.heap.size A' (mendL l)) := Lib.hid fun W v B ho => by
    obtain ⟨A', c', e, hr⟩ := ho.form
    exact ⟨A', c', by rw [e, hlen], hr⟩
  have HE : Hid (∀ W A' c', RC W W.heap.size A' (mendL l) → Calls Tryd.prog 13 #[.slice A' n c'] W fun e w' => ∃ v, e = .returned v ∧ OC W.heap.size w' v (mendL l) ∧ Below W.heap.size W w') := Lib.hid fun W A' c' hr => by
    have hq := refMend_any A' (mendL l) n c' hlen.symm hl W hr
    rwa [mendL_idem] at hq
  rw [hw] at HOF
  have hw1 : IntKind.i64.wrap ((n : Int) - 1) = (n : Int) - 1 := by rw [IntKind.wrap_i64]; omega
  have e1 : decide (0 ≤ z) = true := decide_eq_true hz0
  have e3 : decide (z < (n : Int) - 1) = false := decide_eq_false (by omega)
  have e4 : ¬ z < (n : Int) - 1 := by omega
  clear hw hz
  generalize mendL l = l1 at *
  clear h hn hl hlen hb1
  go_enter Tryd.func41, Tryd.ntmps41
  go_wp2_with (first
    | (go_at_call 13; (with_reducible refine (HM.out).mono ?_); rintro e w1 ⟨v, rfl, ho, hb⟩; obtain ⟨A1, c1, rfl, hr⟩ := HF.out _ _ _ ho; have HB1 := Lib.hid (bel0 HB0.out hb); have HR1 := Lib.hid hr; clear ho hb hr HM)
    | (go_at_call 27; (with_reducible refine (HOF.out _).mono ?_); rintro e w2 ⟨rfl, hb⟩; have HB2 := Lib.hid (bel0 HB1.out hb); have HR2 := Lib.hid (HR1.out.past hb); clear hb)
    | (go_at_call 13; (with_reducible refine (HE.out _ _ _ HR2.out).mono ?_); rintro e w3 ⟨v, rfl, ho, hb⟩; have HO := Lib.hid ho; have HB3 := Lib.hid hb; clear ho hb))
  go_ret
  exact ⟨_, rfl, HO.out.lower HB2.out.size, bel0 HB2.out HB3.out⟩
end Go.Proofs.YtoiekhjmfoodiaaDoor

namespace Go.Proofs.YtoiekhjmfoodiaaDoor
open Go.RowKit

theorem refPut_any (A : Option Addr) (l : List CC) (n c : Nat) (z : Int) (x0 : CC) (hn : n = l.length) (hl : n ≤ 1000) (w : World) (h : RC w w.heap.size A l) :
    Calls Tryd.prog 41 #[.slice A n c, .int .i64 z, .int .i32 x0.r, .agg #[.int .i64 x0.fk, .int .i64 x0.fn, .int .i64 x0.bk, .int .i64 x0.bn, .int .i64 x0.fl]] w fun e w' => ∃ v, e = .returned v ∧ OC w.heap.size w' v (putRow l z x0) ∧ Below w.heap.size w w' := by
  unfold putRow
  by_cases hz : 0 ≤ z ∧ z < (l.length : Int)
  · rw [if_pos hz]
    obtain ⟨x, hx⟩ : ∃ x : Nat, z = x := ⟨z.toNat, by omega⟩
    rw [show z.toNat = x by omega]
    by_cases e1 : ofZ x0.r = 1
    · rw [if_pos e1]
      exact refPut_one A l n c z x0 hn hl x hx (by omega) e1 w h
    · rw [if_neg e1]
      by_cases e2 : ofZ x0.r = 2 ∧ x + 1 < l.length
      · rw [if_pos e2]
        exact refPut_two A l n c z x0 hn hl x hx (by omega) e2.1 w h
      · rw [if_neg e2, mendL_idem]
        by_cases e3 : ofZ x0.r = 2
        · have e4 : ¬ x + 1 < l.length := fun h' => e2 ⟨e3, h'⟩
          exact refPut_v4 A l n c z x0 hn hl e3 (by omega) (by omega) w h
        · exact refPut_v0 A l n c z x0 hn hl e1 e3 w h
  · rw [if_neg hz]
    by_cases e1 : ofZ x0.r = 1
    · by_cases h0 : z < 0
      · exact refPut_v1 A l n c z x0 hn hl e1 h0 w h
      · exact refPut_v2 A l n c z x0 hn hl e1 (by omega) (by omega) w h
    · by_cases e2 : ofZ x0.r = 2
      · by_cases h0 : z < 0
        · exact refPut_v3 A l n c z x0 hn hl e2 h0 w h
        · exact refPut_v4 A l n c z x0 hn hl e2 (by omega) (by omega) w h
      · exact refPut_v0 A l n c z x0 hn hl e1 e2 w h
end Go.Proofs.YtoiekhjmfoodiaaDoor
