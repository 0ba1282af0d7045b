/- Put's closure: a character of one column, and where nothing is written. -/
import Derived.Test.YtoiekhjmfoodiaaDoorGq
namespace Go.Proofs.YtoiekhjmfoodiaaDoor
open Go.RowKit

/-- What Put's closure has caught: the scalar, the attribute, its width, the place. -/
structure PutC (w : World) (P1 P2 P3 P4 : Nat) (x0 : CC) (z : Int) (x : Nat) : Prop where
  h1 : w.heap[P1]? = some (.cells #[.int .i32 x0.r] 21 (0, 0))
  h2 : w.heap[P2]? = some (.cells #[.int .i64 x0.fk, .int .i64 x0.fn, .int .i64 x0.bk, .int .i64 x0.bn, .int .i64 x0.fl] 35 (0, 0))
  h3 : w.heap[P3]? = some (.cells #[.int .i64 z] 3 (0, 0))
  h4 : w.heap[P4]? = some (.cells #[.int .i64 x] 3 (0, 0))
theorem PutC.past {w w' : World} {P1 P2 P3 P4 : Nat} {x0 : CC} {z : Int} {x : Nat} (h : PutC w P1 P2 P3 P4 x0 z x) (hb : Below w.heap.size w w') : PutC w' P1 P2 P3 P4 x0 z x := by
  have k : ∀ {i : Nat} {o : Obj}, w.heap[i]? = some o → w'.heap[i]? = some o := fun {i o} hi => (hb.block i (Array.getElem?_eq_some_iff.1 hi).1).trans hi
  exact ⟨k h.h1, k h.h2, k h.h3, k h.h4⟩
/-- The cell that Put lays. -/
def putC (x0 : CC) : CC := ⟨x0.r, ⟨#[]⟩, 0, x0.fk, x0.fn, x0.bk, x0.bn, x0.fl⟩
set_option maxRecDepth 100000 in
set_option maxHeartbeats 4000000 in
theorem putFn_one (g n c x P1 P2 P3 P4 : Nat) (M : List CC) (x0 : CC) (hn : n = M.length) (hx : x < n) (w : World) (h : MC w g M) (hp : PutC w P1 P2 P3 P4 x0 1 x) :
    Calls Tryd.prog 49 #[.slice (some ⟨g, 0, none⟩) n c, .pointer (some ⟨P1, 0, none⟩), .pointer (some ⟨P2, 0, none⟩), .pointer (some ⟨P3, 0, none⟩), .pointer (some ⟨P4, 0, none⟩)] w fun e w' => e = .returned (.tuple #[]) ∧ MC w' g (M.set x (putC x0)) ∧ KG g w w' := by
  have hb1 := belA (Below.refl w.heap.size w) (.cells #[.int .i32 x0.r, .string ⟨#[]⟩, .int .i64 0, .int .i64 x0.fk, .int .i64 x0.fn, .int .i64 x0.bk, .int .i64 x0.bn, .int .i64 x0.fl] 44)
  have c1 := cell_of_row _ _ 0 _ _ _ hp.h1
  have d0 := cell_of_row _ _ 0 _ _ _ hp.h2
  have d1 := cell_of_row _ _ 1 _ _ _ hp.h2
  have d2 := cell_of_row _ _ 2 _ _ _ hp.h2
  have d3 := cell_of_row _ _ 3 _ _ _ hp.h2
  have d4 := cell_of_row _ _ 4 _ _ _ hp.h2
  have c3 := cell_of_row _ _ 0 _ _ _ (hp.past hb1).h3
  have c4 := cell_of_row _ _ 0 _ _ _ (hp.past hb1).h4
  have hm := h.past hb1
  obtain ⟨a0, a1, a2, a3, a4, a5, a6, a7⟩ := hm.at' x (by omega)
  have hgl := hm.lt
  have hfr := hm.free
  have hxn : (x : Int) < n := by omega
  have HE := Lib.hid (hm.set x (by omega) (putC x0))
  have HK := Lib.hid (((KG.refl g w).past hb1).set8 (x * 8) (putC x0))
  generalize Ac M x = y at *
  clear h hp hm hb1 hn
  go_enter Tryd.func49, Tryd.ntmps49
  go_wp2
  go_end0
  exact ⟨rfl, HE.out, HK.out⟩
set_option maxRecDepth 100000 in
set_option maxHeartbeats 4000000 in
theorem putFn_none (g n c x P1 P2 P3 P4 : Nat) (M : List CC) (x0 : CC) (z : Int) (hl : n ≤ 1000) (hx : x < n) (hz : z ≠ 1 ∧ (z ≠ 2 ∨ x + 1 = n)) (w : World) (h : MC w g M) (hp : PutC w P1 P2 P3 P4 x0 z x) :
    Calls Tryd.prog 49 #[.slice (some ⟨g, 0, none⟩) n c, .pointer (some ⟨P1, 0, none⟩), .pointer (some ⟨P2, 0, none⟩), .pointer (some ⟨P3, 0, none⟩), .pointer (some ⟨P4, 0, none⟩)] w fun e w' => e = .returned (.tuple #[]) ∧ MC w' g M ∧ KG g w w' := by
  have hb1 := belA (Below.refl w.heap.size w) (.cells #[.int .i32 x0.r, .string ⟨#[]⟩, .int .i64 0, .int .i64 x0.fk, .int .i64 x0.fn, .int .i64 x0.bk, .int .i64 x0.bn, .int .i64 x0.fl] 44)
  have c1 := cell_of_row _ _ 0 _ _ _ hp.h1
  have d0 := cell_of_row _ _ 0 _ _ _ hp.h2
  have d1 := cell_of_row _ _ 1 _ _ _ hp.h2
  have d2 := cell_of_row _ _ 2 _ _ _ hp.h2
  have d3 := cell_of_row _ _ 3 _ _ _ hp.h2
  have d4 := cell_of_row _ _ 4 _ _ _ hp.h2
  have c3 := cell_of_row _ _ 0 _ _ _ (hp.past hb1).h3
  have c4 := cell_of_row _ _ 0 _ _ _ (hp.past hb1).h4
  have HE := Lib.hid (h.past hb1)
  have HK := Lib.hid ((KG.refl g w).past hb1)
  have hwx : IntKind.i64.wrap ((x : Int) + 1) = (x : Int) + 1 := by rw [IntKind.wrap_i64]; omega
  have e1 : (z == 1) = false := by simpa using hz.1
  clear h hp hb1
  by_cases h2 : z = 2
  · have e2 : (z == 2) = true := by simpa using h2
    have hd : decide ((x : Int) + 1 < n) = false := decide_eq_false (by omega)
    clear hz h2
    go_enter Tryd.func49, Tryd.ntmps49
    go_wp2
    go_end0
    exact ⟨rfl, HE.out, HK.out⟩
  · have e2 : (z == 2) = false := by simpa using h2
    clear hz h2
    go_enter Tryd.func49, Tryd.ntmps49
    go_wp2
    go_end0
    exact ⟨rfl, HE.out, HK.out⟩
/-- at with Put's closure, from what the closure does to the mended row. -/
def PutDoes (w : World) (l l2 : List CC) (n P1 P2 P3 P4 : Nat) : Prop :=
  ∀ W g c', Below w.heap.size w W → n ≤ c' → MC W g (mendL l) → Calls Tryd.prog 49 #[.slice (some ⟨g, 0, none⟩) n c', .pointer (some ⟨P1, 0, none⟩), .pointer (some ⟨P2, 0, none⟩), .pointer (some ⟨P3, 0, none⟩), .pointer (some ⟨P4, 0, none⟩)] W fun e w' => e = .returned (.tuple #[]) ∧ MC w' g l2 ∧ KG g W w'
set_option maxRecDepth 100000 in
set_option maxHeartbeats 4000000 in
theorem atPut_in (A : Option Addr) (l l2 : List CC) (n c x P1 P2 P3 P4 : Nat) (hn : n = l.length) (hl : n ≤ 1000) (hx : x < n) (hl2 : l2.length = n) (w : World) (h : RC w w.heap.size A l) (hd : PutDoes w l l2 n P1 P2 P3 P4) :
    Calls Tryd.prog 48 #[.slice A n c, .int .i64 x, .func (.func 49) #[] #[.pointer (some ⟨P1, 0, none⟩), .pointer (some ⟨P2, 0, none⟩), .pointer (some ⟨P3, 0, none⟩), .pointer (some ⟨P4, 0, none⟩)]] w fun e w' => ∃ v, e = .returned v ∧ OC w.heap.size w' v (mendL l2) ∧ Below w.heap.size w w' := by
  have HM := Lib.hid (mend_any A l n c hn hl w h)
  have hlen : (mendL l).length = n := by rw [mendL_len, hn]
  have HF : Hid (∀ W v, OC w.heap.size W v (mendL l) → ∃ g c', v = .slice (some ⟨g, 0, none⟩) n c' ∧ w.heap.size ≤ g ∧ n ≤ c' ∧ MC W g (mendL l)) := Lib.hid fun W v ho => by
    obtain ⟨g, c', e, h1, h2, h3⟩ := ho.some (by omega)
    exact ⟨g, c', by rw [e, hlen], h1, by omega, h3⟩
  have HD := Lib.hid hd
  unfold PutDoes at HD
  have HE : Hid (∀ W g c', n ≤ c' → MC W g l2 → Calls Tryd.prog 30 #[.slice (some ⟨g, 0, none⟩) n c'] W fun e w' => e = .returned (.tuple #[]) ∧ MC w' g (mendL l2) ∧ KG g W w') := Lib.hid fun W g c' hc hm => mendc_any g n c' _ hl2.symm (by omega) hc W hm
  have HL3 : Hid ((mendL l2).length = n) := Lib.hid (by rw [mendL_len, hl2])
  have hd1 : decide ((0 : Int) ≤ x) = true := decide_eq_true (by omega)
  have hd2 : decide ((x : Int) < n) = true := decide_eq_true (by omega)
  have hd3 : decide (x < n) = true := decide_eq_true hx
  clear h hd hlen hl2 hn
  generalize mendL l2 = l3 at *
  generalize mendL l = l1 at *
  go_enter Tryd.func48, Tryd.ntmps48
  go_wp2_with (first
    | (go_at_call 12; (with_reducible refine (HM.out).mono ?_); rintro e w1 ⟨v, rfl, ho, hb⟩; obtain ⟨g, c', rfl, hg, hc', hm⟩ := HF.out _ _ ho; have HB1 := Lib.hid hb; have HM1 := Lib.hid hm; clear ho hb hm)
    | (go_at_call 49; (with_reducible refine (HD.out _ _ _ HB1.out hc' HM1.out).mono ?_); rintro e w2 ⟨rfl, hm2, hk2⟩; have HM2 := Lib.hid hm2; have HK2 := Lib.hid hk2; clear hm2 hk2)
    | (go_at_call 30; (with_reducible refine (HE.out _ _ _ hc' HM2.out).mono ?_); rintro e w3 ⟨rfl, hm3, hk3⟩; have HM3 := Lib.hid hm3; have HK3 := Lib.hid (Below.ofKG HB1.out (HK2.out.trans hk3) hg (HB1.out).size); clear hm3 hk3))
  go_ret
  exact ⟨.slice (some ⟨g, 0, none⟩) n c', rfl, .inr ⟨g, c', by rw [HL3.out], hg, by rw [HL3.out]; exact hc', HM3.out⟩, HK3.out⟩
end Go.Proofs.YtoiekhjmfoodiaaDoor
