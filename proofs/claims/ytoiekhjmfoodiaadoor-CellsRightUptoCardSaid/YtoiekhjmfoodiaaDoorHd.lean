/- The walk of cells.Put at any place; at with each closure where the place is not there; Close. -/
import Derived.Test.YtoiekhjmfoodiaaDoorGv
import Derived.Laws.IdiomCopy
import Derived.Deep.MidRow
namespace Go.Proofs.YtoiekhjmfoodiaaDoor
open Go.RowKit

set_option maxRecDepth 100000 in
set_option maxHeartbeats 4000000 in
theorem atPut_out (A : Option Addr) (l : List CC) (n c : Nat) (z : Int) (caps : Array Value) (hn : n = l.length) (hl : n ≤ 1000) (hz : z < 0 ∨ (n : Int) ≤ z) (w : World) (h : RC w w.heap.size A l) :
    Calls Tryd.prog 48 #[.slice A n c, .int .i64 z, .func (.func 49) #[] caps] w fun e w' => ∃ v, e = .returned v ∧ OC w.heap.size w' v (mendL l) ∧ Below w.heap.size w w' := by
  have HM := Lib.hid (mend_any A l n c hn hl w h)
  have hlen : (mendL l).length = n := by rw [mendL_len, hn]
  have HF : Hid (∀ W v, OC w.heap.size W v (mendL l) → ∃ A' c', v = .slice A' n c') := Lib.hid fun W v ho => by
    obtain ⟨A', c', e, _⟩ := ho.form
    exact ⟨A', c', by rw [e, hlen]⟩
  clear h hlen hn
  generalize mendL l = l1 at *
  by_cases h0 : 0 ≤ z
  · have hd1 : decide ((0 : Int) ≤ z) = true := decide_eq_true h0
    have hd2 : decide (z < (n : Int)) = false := decide_eq_false (by omega)
    clear hz h0
    go_enter Tryd.func48, Tryd.ntmps48
    go_wp2_with (go_at_call 12; (with_reducible refine (HM.out).mono ?_); rintro e w1 ⟨v, rfl, ho, hb⟩; obtain ⟨A', c', rfl⟩ := HF.out _ _ ho; have HB1 := Lib.hid hb; have HO1 := Lib.hid ho; clear ho hb)
    go_ret
    exact ⟨_, rfl, HO1.out, HB1.out⟩
  · have hd1 : decide ((0 : Int) ≤ z) = false := decide_eq_false h0
    clear hz h0
    go_enter Tryd.func48, Tryd.ntmps48
    go_wp2_with (go_at_call 12; (with_reducible refine (HM.out).mono ?_); rintro e w1 ⟨v, rfl, ho, hb⟩; obtain ⟨A', c', rfl⟩ := HF.out _ _ ho; have HB1 := Lib.hid hb; have HO1 := Lib.hid ho; clear ho hb)
    go_ret
    exact ⟨_, rfl, HO1.out, HB1.out⟩
set_option maxRecDepth 100000 in
set_option maxHeartbeats 4000000 in
theorem atMark_out (A : Option Addr) (l : List CC) (n c : Nat) (z : Int) (caps : Array Value) (hn : n = l.length) (hl : n ≤ 1000) (hz : z < 0 ∨ (n : Int) ≤ z) (w : World) (h : RC w w.heap.size A l) :
    Calls Tryd.prog 48 #[.slice A n c, .int .i64 z, .func (.func 63) #[] caps] w fun e w' => ∃ v, e = .returned v ∧ OC w.heap.size w' v (mendL l) ∧ Below w.heap.size w w' := by
  have HM := Lib.hid (mend_any A l n c hn hl w h)
  have hlen : (mendL l).length = n := by rw [mendL_len, hn]
  have HF : Hid (∀ W v, OC w.heap.size W v (mendL l) → ∃ A' c', v = .slice A' n c') := Lib.hid fun W v ho => by
    obtain ⟨A', c', e, _⟩ := ho.form
    exact ⟨A', c', by rw [e, hlen]⟩
  clear h hlen hn
  generalize mendL l = l1 at *
  by_cases h0 : 0 ≤ z
  · have hd1 : decide ((0 : Int) ≤ z) = true := decide_eq_true h0
    have hd2 : decide (z < (n : Int)) = false := decide_eq_false (by omega)
    clear hz h0
    go_enter Tryd.func48, Tryd.ntmps48
    go_wp2_with (go_at_call 12; (with_reducible refine (HM.out).mono ?_); rintro e w1 ⟨v, rfl, ho, hb⟩; obtain ⟨A', c', rfl⟩ := HF.out _ _ ho; have HB1 := Lib.hid hb; have HO1 := Lib.hid ho; clear ho hb)
    go_ret
    exact ⟨_, rfl, HO1.out, HB1.out⟩
  · have hd1 : decide ((0 : Int) ≤ z) = false := decide_eq_false h0
    clear hz h0
    go_enter Tryd.func48, Tryd.ntmps48
    go_wp2_with (go_at_call 12; (with_reducible refine (HM.out).mono ?_); rintro e w1 ⟨v, rfl, ho, hb⟩; obtain ⟨A', c', rfl⟩ := HF.out _ _ ho; have HB1 := Lib.hid hb; have HO1 := Lib.hid ho; clear ho hb)
    go_ret
    exact ⟨_, rfl, HO1.out, HB1.out⟩
set_option maxRecDepth 100000 in
set_option maxHeartbeats 4000000 in
theorem atClose_out (A : Option Addr) (l : List CC) (n c : Nat) (z : Int) (caps : Array Value) (hn : n = l.length) (hl : n ≤ 1000) (hz : z < 0 ∨ (n : Int) ≤ z) (w : World) (h : RC w w.heap.size A l) :
    Calls Tryd.prog 48 #[.slice A n c, .int .i64 z, .func (.func 66) #[] caps] w fun e w' => ∃ v, e = .returned v ∧ OC w.heap.size w' v (mendL l) ∧ Below w.heap.size w w' := by
  have HM := Lib.hid (mend_any A l n c hn hl w h)
  have hlen : (mendL l).length = n := by rw [mendL_len, hn]
  have HF : Hid (∀ W v, OC w.heap.size W v (mendL l) → ∃ A' c', v = .slice A' n c') := Lib.hid fun W v ho => by
    obtain ⟨A', c', e, _⟩ := ho.form
    exact ⟨A', c', by rw [e, hlen]⟩
  clear h hlen hn
  generalize mendL l = l1 at *
  by_cases h0 : 0 ≤ z
  · have hd1 : decide ((0 : Int) ≤ z) = true := decide_eq_true h0
    have hd2 : decide (z < (n : Int)) = false := decide_eq_false (by omega)
    clear hz h0
    go_enter Tryd.func48, Tryd.ntmps48
    go_wp2_with (go_at_call 12; (with_reducible refine (HM.out).mono ?_); rintro e w1 ⟨v, rfl, ho, hb⟩; obtain ⟨A', c', rfl⟩ := HF.out _ _ ho; have HB1 := Lib.hid hb; have HO1 := Lib.hid ho; clear ho hb)
    go_ret
    exact ⟨_, rfl, HO1.out, HB1.out⟩
  · have hd1 : decide ((0 : Int) ≤ z) = false := decide_eq_false h0
    clear hz h0
    go_enter Tryd.func48, Tryd.ntmps48
    go_wp2_with (go_at_call 12; (with_reducible refine (HM.out).mono ?_); rintro e w1 ⟨v, rfl, ho, hb⟩; obtain ⟨A', c', rfl⟩ := HF.out _ _ ho; have HB1 := Lib.hid hb; have HO1 := Lib.hid ho; clear ho hb)
    go_ret
    exact ⟨_, rfl, HO1.out, HB1.out⟩
set_option maxRecDepth 100000 in
set_option maxHeartbeats 4000000 in
theorem atInsert_out (A : Option Addr) (l : List CC) (n c : Nat) (z : Int) (caps : Array Value) (hn : n = l.length) (hl : n ≤ 1000) (hz : z < 0 ∨ (n : Int) ≤ z) (w : World) (h : RC w w.heap.size A l) :
    Calls Tryd.prog 48 #[.slice A n c, .int .i64 z, .func (.func 64) #[] caps] w fun e w' => ∃ v, e = .returned v ∧ OC w.heap.size w' v (mendL l) ∧ Below w.heap.size w w' := by
  have HM := Lib.hid (mend_any A l n c hn hl w h)
  have hlen : (mendL l).length = n := by rw [mendL_len, hn]
  have HF : Hid (∀ W v, OC w.heap.size W v (mendL l) → ∃ A' c', v = .slice A' n c') := Lib.hid fun W v ho => by
    obtain ⟨A', c', e, _⟩ := ho.form
    exact ⟨A', c', by rw [e, hlen]⟩
  clear h hlen hn
  generalize mendL l = l1 at *
  by_cases h0 : 0 ≤ z
  · have hd1 : decide ((0 : Int) ≤ z) = true := decide_eq_true h0
    have hd2 : decide (z < (n : Int)) = false := decide_eq_false (by omega)
    clear hz h0
    go_enter Tryd.func48, Tryd.ntmps48
    go_wp2_with (go_at_call 12; (with_reducible refine (HM.out).mono ?_); rintro e w1 ⟨v, rfl, ho, hb⟩; obtain ⟨A', c', rfl⟩ := HF.out _ _ ho; have HB1 := Lib.hid hb; have HO1 := Lib.hid ho; clear ho hb)
    go_ret
    exact ⟨_, rfl, HO1.out, HB1.out⟩
  · have hd1 : decide ((0 : Int) ≤ z) = false := decide_eq_false h0
    clear hz h0
    go_enter Tryd.func48, Tryd.ntmps48
    go_wp2_with (go_at_call 12; (with_reducible refine (HM.out).mono ?_); rintro e w1 ⟨v, rfl, ho, hb⟩; obtain ⟨A', c', rfl⟩ := HF.out _ _ ho; have HB1 := Lib.hid hb; have HO1 := Lib.hid ho; clear ho hb)
    go_ret
    exact ⟨_, rfl, HO1.out, HB1.out⟩
set_option maxRecDepth 100000 in
set_option maxHeartbeats 4000000 in
theorem atDelete_out (A : Option Addr) (l : List CC) (n c : Nat) (z : Int) (caps : Array Value) (hn : n = l.length) (hl : n ≤ 1000) (hz : z < 0 ∨ (n : Int) ≤ z) (w : World) (h : RC w w.heap.size A l) :
    Calls Tryd.prog 48 #[.slice A n c, .int .i64 z, .func (.func 65) #[] caps] w fun e w' => ∃ v, e = .returned v ∧ OC w.heap.size w' v (mendL l) ∧ Below w.heap.size w w' := by
  have HM := Lib.hid (mend_any A l n c hn hl w h)
  have hlen : (mendL l).length = n := by rw [mendL_len, hn]
  have HF : Hid (∀ W v, OC w.heap.size W v (mendL l) → ∃ A' c', v = .slice A' n c') := Lib.hid fun W v ho => by
    obtain ⟨A', c', e, _⟩ := ho.form
    exact ⟨A', c', by rw [e, hlen]⟩
  clear h hlen hn
  generalize mendL l = l1 at *
  by_cases h0 : 0 ≤ z
  · have hd1 : decide ((0 : Int) ≤ z) = true := decide_eq_true h0
    have hd2 : decide (z < (n : Int)) = false := decide_eq_false (by omega)
    clear hz h0
    go_enter Tryd.func48, Tryd.ntmps48
    go_wp2_with (go_at_call 12; (with_reducible refine (HM.out).mono ?_); rintro e w1 ⟨v, rfl, ho, hb⟩; obtain ⟨A', c', rfl⟩ := HF.out _ _ ho; have HB1 := Lib.hid hb; have HO1 := Lib.hid ho; clear ho hb)
    go_ret
    exact ⟨_, rfl, HO1.out, HB1.out⟩
  · have hd1 : decide ((0 : Int) ≤ z) = false := decide_eq_false h0
    clear hz h0
    go_enter Tryd.func48, Tryd.ntmps48
    go_wp2_with (go_at_call 12; (with_reducible refine (HM.out).mono ?_); rintro e w1 ⟨v, rfl, ho, hb⟩; obtain ⟨A', c', rfl⟩ := HF.out _ _ ho; have HB1 := Lib.hid hb; have HO1 := Lib.hid ho; clear ho hb)
    go_ret
    exact ⟨_, rfl, HO1.out, HB1.out⟩
set_option maxRecDepth 100000 in
set_option maxHeartbeats 4000000 in
theorem put_via (A : Option Addr) (LL : List CC) (n c : Nat) (z : Int) (x0 : CC) (w : World) (hT : WT w)
    (hd : ∀ W P1 P2 P3 P4, Below w.heap.size w W → W.heap[P1]? = some (.cells #[.int .i32 x0.r] 21 (0, 0)) → W.heap[P2]? = some (.cells #[.int .i64 x0.fk, .int .i64 x0.fn, .int .i64 x0.bk, .int .i64 x0.bn, .int .i64 x0.fl] 35 (0, 0)) → W.heap[P3]? = some (.cells #[.int .i64 (ofZ x0.r)] 3 (0, 0)) → W.heap[P4]? = some (.cells #[.int .i64 z] 3 (0, 0)) →
      Calls Tryd.prog 48 #[.slice A n c, .int .i64 z, .func (.func 49) #[] #[.pointer (some ⟨P1, 0, none⟩), .pointer (some ⟨P2, 0, none⟩), .pointer (some ⟨P3, 0, none⟩), .pointer (some ⟨P4, 0, none⟩)]] W fun e w' => ∃ v, e = .returned v ∧ OC W.heap.size w' v LL ∧ Below W.heap.size W w') :
    Calls Tryd.prog 22 #[.slice A n c, .int .i64 z, .int .i32 x0.r, .agg #[.int .i64 x0.fk, .int .i64 x0.fn, .int .i64 x0.bk, .int .i64 x0.bn, .int .i64 x0.fl]] w fun e w' => ∃ v, e = .returned v ∧ OC w.heap.size w' v LL ∧ Below w.heap.size w w' := by
  have hb1 : Below w.heap.size w (((w.alloc (.cells #[.int .i64 z] 3)).alloc (.cells #[.int .i32 x0.r] 21)).alloc (.cells #[.int .i64 x0.fk, .int .i64 x0.fn, .int .i64 x0.bk, .int .i64 x0.bn, .int .i64 x0.fl] 35)) := belA (belA (belA (Below.refl _ _) _) _) _
  have s0 : (w.alloc (.cells #[.int .i64 z] 3)).heap.size = w.heap.size + 1 := by simp
  have s1 : ((w.alloc (.cells #[.int .i64 z] 3)).alloc (.cells #[.int .i32 x0.r] 21)).heap.size = w.heap.size + 2 := by simp
  have s2 : (((w.alloc (.cells #[.int .i64 z] 3)).alloc (.cells #[.int .i32 x0.r] 21)).alloc (.cells #[.int .i64 x0.fk, .int .i64 x0.fn, .int .i64 x0.bk, .int .i64 x0.bn, .int .i64 x0.fl] 35)).heap.size = w.heap.size + 3 := by simp
  have b1 : (((w.alloc (.cells #[.int .i64 z] 3)).alloc (.cells #[.int .i32 x0.r] 21)).alloc (.cells #[.int .i64 x0.fk, .int .i64 x0.fn, .int .i64 x0.bk, .int .i64 x0.bn, .int .i64 x0.fl] 35)).heap[w.heap.size]? = some (.cells #[.int .i64 z] 3 (0, 0)) :=
    ((belA (belA (Below.refl (w.alloc (.cells #[.int .i64 z] 3)).heap.size _) (.cells #[.int .i32 x0.r] 21)) (.cells #[.int .i64 x0.fk, .int .i64 x0.fn, .int .i64 x0.bk, .int .i64 x0.bn, .int .i64 x0.fl] 35)).block w.heap.size (by omega)).trans (heap_alloc_new w _)
  have b2 : (((w.alloc (.cells #[.int .i64 z] 3)).alloc (.cells #[.int .i32 x0.r] 21)).alloc (.cells #[.int .i64 x0.fk, .int .i64 x0.fn, .int .i64 x0.bk, .int .i64 x0.bn, .int .i64 x0.fl] 35)).heap[w.heap.size + 1]? = some (.cells #[.int .i32 x0.r] 21 (0, 0)) := by
    have n2 := heap_alloc_new (w.alloc (.cells #[.int .i64 z] 3)) (.cells #[.int .i32 x0.r] 21)
    rw [s0] at n2
    exact ((belA (Below.refl ((w.alloc (.cells #[.int .i64 z] 3)).alloc (.cells #[.int .i32 x0.r] 21)).heap.size _) (.cells #[.int .i64 x0.fk, .int .i64 x0.fn, .int .i64 x0.bk, .int .i64 x0.bn, .int .i64 x0.fl] 35)).block (w.heap.size + 1) (by omega)).trans n2
  have b3 : (((w.alloc (.cells #[.int .i64 z] 3)).alloc (.cells #[.int .i32 x0.r] 21)).alloc (.cells #[.int .i64 x0.fk, .int .i64 x0.fn, .int .i64 x0.bk, .int .i64 x0.bn, .int .i64 x0.fl] 35)).heap[w.heap.size + 2]? = some (.cells #[.int .i64 x0.fk, .int .i64 x0.fn, .int .i64 x0.bk, .int .i64 x0.bn, .int .i64 x0.fl] 35 (0, 0)) := by
    have n3 := heap_alloc_new ((w.alloc (.cells #[.int .i64 z] 3)).alloc (.cells #[.int .i32 x0.r] 21)) (.cells #[.int .i64 x0.fk, .int .i64 x0.fn, .int .i64 x0.bk, .int .i64 x0.bn, .int .i64 x0.fl] 35)
    rw [s1] at n3
    exact n3
  have HB0 := Lib.hid hb1
  generalize HW3 : (((w.alloc (.cells #[.int .i64 z] 3)).alloc (.cells #[.int .i32 x0.r] 21)).alloc (.cells #[.int .i64 x0.fk, .int .i64 x0.fn, .int .i64 x0.bk, .int .i64 x0.bn, .int .i64 x0.fl] 35)) = w3 at *
  have HOF : Hid (Calls Tryd.prog 47 #[.int .i32 x0.r] w3 fun e w' => e = .returned (.int .i64 (ofZ x0.r)) ∧ Below w3.heap.size w3 w') := Lib.hid (widthOf_any x0.r w3 (hT.below hb1))
  have HAT : Hid (∀ W, Below w3.heap.size w3 W → Calls Tryd.prog 48 #[.slice A n c, .int .i64 z, .func (.func 49) #[] #[.pointer (some ⟨w.heap.size + 1, 0, none⟩), .pointer (some ⟨w.heap.size + 1 + 1, 0, none⟩), .pointer (some ⟨W.heap.size, 0, none⟩), .pointer (some ⟨w.heap.size, 0, none⟩)]] (W.alloc (.cells #[.int .i64 (ofZ x0.r)] 3)) fun e w' => ∃ v, e = .returned v ∧ OC w.heap.size w' v (LL) ∧ Below w.heap.size w w') := Lib.hid fun W hW => by
    have hWa : Below w3.heap.size w3 (W.alloc (.cells #[.int .i64 (ofZ x0.r)] 3)) := hW.alloc hW.size _
    have hb := bel0 hb1 hWa
    refine (hd _ _ _ _ _ hb ((hWa.block _ (by omega)).trans b2) ((hWa.block _ (by omega)).trans b3) (heap_alloc_new W _) ((hWa.block _ (by omega)).trans b1)).mono fun e w' ⟨v, he, ho, hb'⟩ => ⟨v, he, ho.lower hb.size, bel0 hb hb'⟩
  have HC6 : Hid (w3.cell? ⟨w.heap.size + 1, 0, none⟩ = some (.int .i32 x0.r)) := Lib.hid (cell_of_row _ _ 0 _ _ _ b2)
  have HC5 : Hid (∀ W, Below w3.heap.size w3 W → (W.alloc (.cells #[.int .i64 (ofZ x0.r)] 3)).cell? ⟨w.heap.size, 0, none⟩ = some (.int .i64 z)) := Lib.hid fun W hW => cell_of_row _ _ 0 _ _ _ (((hW.alloc hW.size (.cells #[.int .i64 (ofZ x0.r)] 3)).block _ (by omega)).trans b1)
  have HE := Lib.hid HW3
  clear HW3 hd hT hb1 s0 s1 s2 b1 b2 b3
  generalize ofZ x0.r = zz at *
  go_enter Tryd.func22, Tryd.ntmps22
  go_wp2_with (first
    | (go_at_call 47; rw [HE.out]; (with_reducible refine (HOF.out).mono ?_); rintro e w4 ⟨rfl, hb4⟩; have HB4 := Lib.hid hb4; have c5 := HC5.out _ hb4; clear hb4)
    | (go_at_call 48; (with_reducible refine (HAT.out _ HB4.out).mono ?_); rintro e w5 ⟨v, rfl, ho, hb⟩; have HO1 := Lib.hid ho; have HB1 := Lib.hid hb; clear ho hb))
  go_ret
  exact ⟨_, rfl, HO1.out, HB1.out⟩
/-- What Put makes of a row. -/
def putRow (l : List CC) (z : Int) (x0 : CC) : List CC :=
  if 0 ≤ z ∧ z < (l.length : Int) then mendL (if ofZ x0.r = 1 then (mendL l).set z.toNat (putC x0) else if ofZ x0.r = 2 ∧ z.toNat + 1 < l.length then ((mendL l).set z.toNat (leftC x0)).set (z.toNat + 1) (rightC x0) else mendL l) else mendL l
theorem put_any (A : Option Addr) (l : List CC) (n c : Nat) (z : Int) (x0 : CC) (hn : n = l.length) (hl : n ≤ 1000) (w : World) (hT : WT w) (h : RC w w.heap.size A l) :
    Calls Tryd.prog 22 #[.slice A n c, .int .i64 z, .int .i32 x0.r, .agg #[.int .i64 x0.fk, .int .i64 x0.fn, .int .i64 x0.bk, .int .i64 x0.bn, .int .i64 x0.fl]] w fun e w' => ∃ v, e = .returned v ∧ OC w.heap.size w' v (putRow l z x0) ∧ Below w.heap.size w w' := by
  refine put_via A _ n c z x0 w hT fun W P1 P2 P3 P4 hW h1 h2 h3 h4 => ?_
  have hR := h.past hW
  unfold putRow
  by_cases hz : 0 ≤ z ∧ z < (l.length : Int)
  · rw [if_pos hz]
    obtain ⟨x, hx⟩ : ∃ x : Nat, z = x := ⟨z.toNat, by omega⟩
    subst hx
    have hxl : x < l.length := by omega
    rw [Int.toNat_natCast]
    have hp : PutC W P1 P2 P3 P4 x0 (ofZ x0.r) x := ⟨h1, h2, h3, h4⟩
    by_cases e1 : ofZ x0.r = 1
    · rw [if_pos e1]
      rw [e1] at hp
      exact atPut_in A l _ n c x P1 P2 P3 P4 hn hl (by omega) (by simp [mendL_len, hn]) W hR fun V g c' hV _ hm => putFn_one g n c' x P1 P2 P3 P4 _ x0 (by rw [mendL_len, hn]) (by omega) V hm (hp.past hV)
    · rw [if_neg e1]
      by_cases e2 : ofZ x0.r = 2 ∧ x + 1 < l.length
      · rw [if_pos e2]
        rw [e2.1] at hp
        exact atPut_in A l _ n c x P1 P2 P3 P4 hn hl (by omega) (by simp [mendL_len, hn]) W hR fun V g c' hV _ hm => putFn_two g n c' x P1 P2 P3 P4 _ x0 (by rw [mendL_len, hn]) hl (by omega) V hm (hp.past hV)
      · rw [if_neg e2]
        exact atPut_in A l _ n c x P1 P2 P3 P4 hn hl (by omega) (by simp [mendL_len, hn]) W hR fun V g c' hV _ hm => putFn_none g n c' x P1 P2 P3 P4 _ x0 (ofZ x0.r) hl (by omega) ⟨e1, by
          by_cases e3 : ofZ x0.r = 2
          · right
            have : ¬ x + 1 < l.length := fun h => e2 ⟨e3, h⟩
            omega
          · exact .inl e3⟩ V hm (hp.past hV)
  · rw [if_neg hz]
    exact atPut_out A l n c z _ hn hl (by omega) W hR
end Go.Proofs.YtoiekhjmfoodiaaDoor

namespace Go.Proofs.YtoiekhjmfoodiaaDoor
open Go.RowKit

theorem run_copy_8 {P : Program} (w : World) (dT sT ty elem : TypeId) (b o dLen dCap : Nat) (a : Addr) (sLen sCap k : Nat) (cs : List Value)
    (hu : P.underlying dT = some (.slice elem)) (hs : (P.info? elem).map (·.size) = some 8) (hk : k = Nat.min sLen dLen) (hn : cs.length = k * 8)
    (hsrc : ∀ j v, cs[j]? = some v → w.cell? (a.add j) = some v) (hc : ∀ j, j < cs.length → (w.cell? ⟨b, o + j, none⟩).isSome = true) (hf : ∀ j, j < cs.length → w.frozen? ⟨b, o + j, none⟩ = false) (h1 : ∀ v ∈ cs, v.oneCell' = true) :
    (Builtin.copy_ #[dT, sT] ty #[.slice (some ⟨b, o, none⟩) dLen dCap, .slice (some a) sLen sCap]).run P w = .ok (goInt k) (w.setCells b o cs) := by
  have hl := run_loadCells_list (P := P) w a cs hsrc
  have hst := run_storeCells_cells (P := P) b o cs 0 w (by simpa using hc) (by simpa using hf) h1
  rw [hn] at hl
  cases hq : P.info? elem with
  | none => simp [hq] at hs
  | some i =>
    have hi : i.size = 8 := by simpa [hq] using hs
    simp [Builtin.copy_, run_underlying hu, Builtin.lenOf, Builtin.firstCells, sizeOf, typeInfo, hq, hi, ← hk, hl, hst]
/-- A row in which k cells from the place s on lie at the place d too. -/
def movL (M : List CC) (d s k : Nat) : List CC := M.take d ++ ((M.drop s).take k ++ M.drop (d + k))
theorem movL_len (M : List CC) (d s k : Nat) (h1 : d + k ≤ M.length) (h2 : s + k ≤ M.length) : (movL M d s k).length = M.length := by
  unfold movL
  simp only [List.length_append, List.length_take, List.length_drop]
  omega
theorem movL_in (M : List CC) (d s k j : Nat) (h1 : d + k ≤ M.length) (h2 : s + k ≤ M.length) (hj : j < k) : Ac (movL M d s k) (d + j) = Ac M (s + j) := by
  unfold Ac movL
  rw [List.getElem?_append_right (by simp; omega), List.getElem?_append_left (by simp; omega)]
  simp only [List.length_take]
  rw [show d + j - min d M.length = j by omega, List.getElem?_take, if_pos hj, List.getElem?_drop]
theorem movL_low (M : List CC) (d s k j : Nat) (h1 : d + k ≤ M.length) (hj : j < d) : Ac (movL M d s k) j = Ac M j := by
  unfold Ac movL
  rw [List.getElem?_append_left (by simp; omega), List.getElem?_take, if_pos hj]
theorem movL_high (M : List CC) (d s k j : Nat) (h1 : d + k ≤ M.length) (h2 : s + k ≤ M.length) (hj : d + k ≤ j) : Ac (movL M d s k) j = Ac M j := by
  unfold Ac movL
  rw [List.getElem?_append_right (by simp; omega), List.getElem?_append_right (by simp; omega), List.getElem?_drop]
  simp only [List.length_take, List.length_drop]
  rw [show d + k + (j - min d M.length - min k (M.length - s)) = j by omega]
theorem one_cells : ∀ (l : List CC), ∀ v ∈ cellsC l, v.oneCell' = true
  | [], v, h => by cases h
  | x :: l, v, h => by
    have h : v ∈ encC x ++ cellsC l := h
    rcases List.mem_append.1 h with h | h
    · simp only [encC, List.mem_cons, List.not_mem_nil, or_false] at h
      rcases h with rfl | rfl | rfl | rfl | rfl | rfl | rfl | rfl <;> rfl
    · exact one_cells l v h
theorem cellsC_split (l : List CC) (j : Nat) (u : Value) (h : (cellsC l)[j]? = some u) : ∃ i r, j = i * 8 + r ∧ r < 8 ∧ i < l.length ∧ (encC (Ac l i))[r]? = some u := by
  have hj : j < (cellsC l).length := (List.getElem?_eq_some_iff.1 h).1
  rw [cellsC_len] at hj
  refine ⟨j / 8, j % 8, by omega, by omega, by omega, ?_⟩
  rw [← cellsC_at l (j / 8) (j % 8) (by omega) (by omega), show j / 8 * 8 + j % 8 = j by omega]
  exact h
theorem Ac_cut (M : List CC) (s k i : Nat) (hi : i < k) : Ac ((M.drop s).take k) i = Ac M (s + i) := by
  unfold Ac
  rw [List.getElem?_take, if_pos hi, List.getElem?_drop]
theorem KG.setCells {g : Nat} {w w1 : World} (h : KG g w w1) : ∀ (vs : List Value) (o : Nat), KG g w (w1.setCells g o vs) := fun vs => by
  induction vs generalizing w1 with
  | nil => exact fun o => h
  | cons v r ih => exact fun o => ih (h.set o v) (o + 1)
theorem row_setCells {g : Nat} (vs : List Value) : ∀ (o : Nat) (w : World) (cur : Array Value), w.heap[g]? = some (.cells cur 44 (0, 0)) → ∃ cur', (w.setCells g o vs).heap[g]? = some (.cells cur' 44 (0, 0)) := by
  induction vs with
  | nil => exact fun o w cur h => ⟨cur, h⟩
  | cons v r ih => exact fun o w cur h => ih (o + 1) (w.setCell ⟨g, o, none⟩ v) _ (heap_setCell_same w g o cur _ v h)
theorem MC.there {w : World} {g : Nat} {M : List CC} (h : MC w g M) (d k : Nat) (h1 : d + k ≤ M.length) : w.there g (d * 8) (k * 8) := fun j hj => by
  refine ⟨?_, h.free _⟩
  have hs : ((encC (Ac M (d + j / 8)))[j % 8]?).isSome := by simp [encC]; omega
  obtain ⟨u, hu⟩ := Option.isSome_iff_exists.1 hs
  have := (h.at' (d + j / 8) (by omega)).enc (j % 8) u hu
  rw [show (d + j / 8) * 8 + j % 8 = d * 8 + j by omega] at this
  rw [this]
  rfl
theorem MC.moved {w : World} {g : Nat} {M : List CC} (h : MC w g M) (d s k : Nat) (h1 : d + k ≤ M.length) (h2 : s + k ≤ M.length) : MC (w.setCells g (d * 8) (cellsC ((M.drop s).take k))) g (movL M d s k) := by
  have hcl : (cellsC ((M.drop s).take k)).length = k * 8 := by rw [cellsC_len, List.length_take, List.length_drop]; omega
  have hth := h.there d k h1
  rw [← hcl] at hth
  obtain ⟨cur, hc⟩ := h.row
  refine ⟨row_setCells _ _ _ cur hc, fun i hi => C8.of fun r u hu => ?_⟩
  rw [movL_len M d s k h1 h2] at hi
  have hr : r < 8 := by have := (List.getElem?_eq_some_iff.1 hu).1; simpa [encC] using this
  by_cases hlo : i < d
  · rw [movL_low M d s k i h1 hlo] at hu
    have hra : w.rangeAt g (i * 8) (encC (Ac M i)) := fun j u hj => (h.at' i hi).enc j u hj
    exact World.rangeAt_setCells_apart hra g (d * 8) _ (.inr (.inl (by show i * 8 + 8 ≤ d * 8; omega))) r u hu
  · by_cases hhi : d + k ≤ i
    · rw [movL_high M d s k i h1 h2 hhi] at hu
      have hra : w.rangeAt g (i * 8) (encC (Ac M i)) := fun j u hj => (h.at' i hi).enc j u hj
      exact World.rangeAt_setCells_apart hra g (d * 8) _ (.inr (.inr (by rw [hcl]; omega))) r u hu
    · obtain ⟨j, rfl⟩ : ∃ j, i = d + j := ⟨i - d, by omega⟩
      rw [movL_in M d s k j h1 h2 (by omega)] at hu
      have := World.rangeAt_setCells_same w g (d * 8) _ hth (j * 8 + r) u (by
        rw [cellsC_at _ j r (by rw [List.length_take, List.length_drop]; omega) hr, Ac_cut M s k j (by omega)]
        exact hu)
      rwa [show d * 8 + (j * 8 + r) = (d + j) * 8 + r by omega] at this
theorem sizeCell : (Tryd.prog.info? 44).map (·.size) = some 8 := by kernel_rfl
/-- The builtin copy inside a row of cells. -/
theorem wpList_copy_mc {w : World} {ops : Array Oper} {rest : List Oper} {o : Oper} {a : Act} {Q : Exit → Act → World → Prop} (hgd : o.guard = none) (d s : Operand)
    (ho : o.op = .call { callee := .builtin .copy, args := #[d, s], argTypes := #[22, 22] })
    (g : Nat) (M : List CC) (hm : MC w g M) (od os dLen dCap sLen sCap k : Nat) (hd : a.eval d = .slice (some ⟨g, od * 8, none⟩) dLen dCap) (hs : a.eval s = .slice (some ⟨g, os * 8, none⟩) sLen sCap)
    (hk : k = Nat.min sLen dLen) (h1 : od + k ≤ M.length) (h2 : os + k ≤ M.length)
    (h : ∀ w', MC w' g (movL M od os k) → KG g w w' → wpList Tryd.prog ops Q rest (a.put o.dst (goInt k)) w') : wpList Tryd.prog ops Q (o :: rest) a w := by
  refine wpList_plain hgd fun K hK => ?_
  have hcl : (cellsC ((M.drop os).take k)).length = k * 8 := by rw [cellsC_len, List.length_take, List.length_drop]; omega
  have hth := hm.there od k h1
  rw [← hcl] at hth
  have hrun := run_copy_8 (P := Tryd.prog) w 22 22 o.type 44 g (od * 8) dLen dCap ⟨g, os * 8, none⟩ sLen sCap k (cellsC ((M.drop os).take k)) Tryd.underlying22 sizeCell hk hcl
    (fun j v hj => by
      obtain ⟨i, r, rfl, hr, hi, hu⟩ := cellsC_split _ j v hj
      rw [List.length_take, List.length_drop] at hi
      rw [Ac_cut M os k i (by omega)] at hu
      have := (hm.at' (os + i) (by omega)).enc r v hu
      rw [Addr.add_mid, show os * 8 + (i * 8 + r) = (os + i) * 8 + r by omega]
      exact this) (fun j hj => (hth j hj).1) (fun j hj => (hth j hj).2) (one_cells _)
  unfold Oper.wp
  simp [execOp, ho, resolve, invoke, builtin, hd, hs, hrun, Result.andThen]
  exact hK _ _ (h _ (hm.moved od os k h1 h2) ((KG.refl g w).setCells _ _))
end Go.Proofs.YtoiekhjmfoodiaaDoor

namespace Go.Proofs.YtoiekhjmfoodiaaDoor
open Go.RowKit

def padC : CC := ⟨0, ⟨#[]⟩, 3, 0, 0, 0, 0, 0⟩
set_option maxRecDepth 100000 in
set_option maxHeartbeats 4000000 in
theorem closeFn_any (g n c x P1 : Nat) (M : List CC) (hn : n = M.length) (hx : x < n) (w : World) (h : MC w g M) (h1 : w.heap[P1]? = some (.cells #[.int .i64 x] 3 (0, 0))) :
    Calls Tryd.prog 66 #[.slice (some ⟨g, 0, none⟩) n c, .pointer (some ⟨P1, 0, none⟩)] w fun e w' => e = .returned (.tuple #[]) ∧ MC w' g (M.set x padC) ∧ KG g w w' := by
  have c1 := cell_of_row _ _ 0 _ _ _ h1
  obtain ⟨a0, a1, a2, a3, a4, a5, a6, a7⟩ := h.at' x (by omega)
  have hgl := h.lt
  have hfr := h.free
  have hxn : (x : Int) < n := by omega
  have HE := Lib.hid (h.set x (by omega) padC)
  have HK := Lib.hid ((KG.refl g w).set8 (x * 8) padC)
  generalize Ac M x = y at *
  clear h h1 hn
  go_enter Tryd.func66, Tryd.ntmps66
  go_wp2
  go_end0
  exact ⟨rfl, HE.out, HK.out⟩
end Go.Proofs.YtoiekhjmfoodiaaDoor

namespace Go.Proofs.YtoiekhjmfoodiaaDoor
open Go.RowKit

def MarkDoes (w : World) (g0 : List CC) (l2 : List CC) (n P1 P2 P3 : Nat) : Prop :=
  ∀ W g c', Below w.heap.size w W → n ≤ c' → MC W g (mendL g0) → Calls Tryd.prog 63 #[.slice (some ⟨g, 0, none⟩) n c', .pointer (some ⟨P1, 0, none⟩), .pointer (some ⟨P2, 0, none⟩), .pointer (some ⟨P3, 0, none⟩)] W fun e w' => e = .returned (.tuple #[]) ∧ MC w' g l2 ∧ KG g W w'
set_option maxRecDepth 100000 in
set_option maxHeartbeats 4000000 in
theorem atMark_in (A : Option Addr) (l l2 : List CC) (n c x P1 P2 P3 : Nat) (hn : n = l.length) (hl : n ≤ 1000) (hx : x < n) (hl2 : l2.length = n) (w : World) (h : RC w w.heap.size A l) (hd : MarkDoes w l l2 n P1 P2 P3) :
    Calls Tryd.prog 48 #[.slice A n c, .int .i64 x, .func (.func 63) #[] #[.pointer (some ⟨P1, 0, none⟩), .pointer (some ⟨P2, 0, none⟩), .pointer (some ⟨P3, 0, none⟩)]] w fun e w' => ∃ v, e = .returned v ∧ OC w.heap.size w' v (mendL l2) ∧ Below w.heap.size w w' := by
  have HM := Lib.hid (mend_any A l n c hn hl w h)
  have hlen : (mendL l).length = n := by rw [mendL_len, hn]
  have HF : Hid (∀ W v, OC w.heap.size W v (mendL l) → ∃ g c', v = .slice (some ⟨g, 0, none⟩) n c' ∧ w.heap.size ≤ g ∧ n ≤ c' ∧ MC W g (mendL l)) := Lib.hid fun W v ho => by
    obtain ⟨g, c', e, h1, h2, h3⟩ := ho.some (by omega)
    exact ⟨g, c', by rw [e, hlen], h1, by omega, h3⟩
  have HD := Lib.hid hd
  unfold MarkDoes at HD
  have HE : Hid (∀ W g c', n ≤ c' → MC W g l2 → Calls Tryd.prog 30 #[.slice (some ⟨g, 0, none⟩) n c'] W fun e w' => e = .returned (.tuple #[]) ∧ MC w' g (mendL l2) ∧ KG g W w') := Lib.hid fun W g c' hc hm => mendc_any g n c' _ hl2.symm (by omega) hc W hm
  have HL3 : Hid ((mendL l2).length = n) := Lib.hid (by rw [mendL_len, hl2])
  have hd1 : decide ((0 : Int) ≤ x) = true := decide_eq_true (by omega)
  have hd2 : decide ((x : Int) < n) = true := decide_eq_true (by omega)
  have hd3 : decide (x < n) = true := decide_eq_true hx
  clear h hd hlen hl2 hn
  generalize mendL l2 = l3 at *
  generalize mendL l = l1 at *
  go_enter Tryd.func48, Tryd.ntmps48
  go_wp2_with (first
    | (go_at_call 12; (with_reducible refine (HM.out).mono ?_); rintro e w1 ⟨v, rfl, ho, hb⟩; obtain ⟨g, c', rfl, hg, hc', hm⟩ := HF.out _ _ ho; have HB1 := Lib.hid hb; have HM1 := Lib.hid hm; clear ho hb hm)
    | (go_at_call 63; (with_reducible refine (HD.out _ _ _ HB1.out hc' HM1.out).mono ?_); rintro e w2 ⟨rfl, hm2, hk2⟩; have HM2 := Lib.hid hm2; have HK2 := Lib.hid hk2; clear hm2 hk2)
    | (go_at_call 30; (with_reducible refine (HE.out _ _ _ hc' HM2.out).mono ?_); rintro e w3 ⟨rfl, hm3, hk3⟩; have HM3 := Lib.hid hm3; have HK3 := Lib.hid (Below.ofKG HB1.out (HK2.out.trans hk3) hg (HB1.out).size); clear hm3 hk3))
  go_ret
  exact ⟨.slice (some ⟨g, 0, none⟩) n c', rfl, .inr ⟨g, c', by rw [HL3.out], hg, by rw [HL3.out]; exact hc', HM3.out⟩, HK3.out⟩
def CloseDoes (w : World) (g0 : List CC) (l2 : List CC) (n P1 : Nat) : Prop :=
  ∀ W g c', Below w.heap.size w W → n ≤ c' → MC W g (mendL g0) → Calls Tryd.prog 66 #[.slice (some ⟨g, 0, none⟩) n c', .pointer (some ⟨P1, 0, none⟩)] W fun e w' => e = .returned (.tuple #[]) ∧ MC w' g l2 ∧ KG g W w'
set_option maxRecDepth 100000 in
set_option maxHeartbeats 4000000 in
theorem atClose_in (A : Option Addr) (l l2 : List CC) (n c x P1 : Nat) (hn : n = l.length) (hl : n ≤ 1000) (hx : x < n) (hl2 : l2.length = n) (w : World) (h : RC w w.heap.size A l) (hd : CloseDoes w l l2 n P1) :
    Calls Tryd.prog 48 #[.slice A n c, .int .i64 x, .func (.func 66) #[] #[.pointer (some ⟨P1, 0, none⟩)]] w fun e w' => ∃ v, e = .returned v ∧ OC w.heap.size w' v (mendL l2) ∧ Below w.heap.size w w' := by
  have HM := Lib.hid (mend_any A l n c hn hl w h)
  have hlen : (mendL l).length = n := by rw [mendL_len, hn]
  have HF : Hid (∀ W v, OC w.heap.size W v (mendL l) → ∃ g c', v = .slice (some ⟨g, 0, none⟩) n c' ∧ w.heap.size ≤ g ∧ n ≤ c' ∧ MC W g (mendL l)) := Lib.hid fun W v ho => by
    obtain ⟨g, c', e, h1, h2, h3⟩ := ho.some (by omega)
    exact ⟨g, c', by rw [e, hlen], h1, by omega, h3⟩
  have HD := Lib.hid hd
  unfold CloseDoes at HD
  have HE : Hid (∀ W g c', n ≤ c' → MC W g l2 → Calls Tryd.prog 30 #[.slice (some ⟨g, 0, none⟩) n c'] W fun e w' => e = .returned (.tuple #[]) ∧ MC w' g (mendL l2) ∧ KG g W w') := Lib.hid fun W g c' hc hm => mendc_any g n c' _ hl2.symm (by omega) hc W hm
  have HL3 : Hid ((mendL l2).length = n) := Lib.hid (by rw [mendL_len, hl2])
  have hd1 : decide ((0 : Int) ≤ x) = true := decide_eq_true (by omega)
  have hd2 : decide ((x : Int) < n) = true := decide_eq_true (by omega)
  have hd3 : decide (x < n) = true := decide_eq_true hx
  clear h hd hlen hl2 hn
  generalize mendL l2 = l3 at *
  generalize mendL l = l1 at *
  go_enter Tryd.func48, Tryd.ntmps48
  go_wp2_with (first
    | (go_at_call 12; (with_reducible refine (HM.out).mono ?_); rintro e w1 ⟨v, rfl, ho, hb⟩; obtain ⟨g, c', rfl, hg, hc', hm⟩ := HF.out _ _ ho; have HB1 := Lib.hid hb; have HM1 := Lib.hid hm; clear ho hb hm)
    | (go_at_call 66; (with_reducible refine (HD.out _ _ _ HB1.out hc' HM1.out).mono ?_); rintro e w2 ⟨rfl, hm2, hk2⟩; have HM2 := Lib.hid hm2; have HK2 := Lib.hid hk2; clear hm2 hk2)
    | (go_at_call 30; (with_reducible refine (HE.out _ _ _ hc' HM2.out).mono ?_); rintro e w3 ⟨rfl, hm3, hk3⟩; have HM3 := Lib.hid hm3; have HK3 := Lib.hid (Below.ofKG HB1.out (HK2.out.trans hk3) hg (HB1.out).size); clear hm3 hk3))
  go_ret
  exact ⟨.slice (some ⟨g, 0, none⟩) n c', rfl, .inr ⟨g, c', by rw [HL3.out], hg, by rw [HL3.out]; exact hc', HM3.out⟩, HK3.out⟩
def InsertDoes (w : World) (g0 : List CC) (l2 : List CC) (n P1 P2 P3 : Nat) : Prop :=
  ∀ W g c', Below w.heap.size w W → n ≤ c' → MC W g (mendL g0) → Calls Tryd.prog 64 #[.slice (some ⟨g, 0, none⟩) n c', .pointer (some ⟨P1, 0, none⟩), .pointer (some ⟨P2, 0, none⟩), .pointer (some ⟨P3, 0, none⟩)] W fun e w' => e = .returned (.tuple #[]) ∧ MC w' g l2 ∧ KG g W w'
set_option maxRecDepth 100000 in
set_option maxHeartbeats 4000000 in
theorem atInsert_in (A : Option Addr) (l l2 : List CC) (n c x P1 P2 P3 : Nat) (hn : n = l.length) (hl : n ≤ 1000) (hx : x < n) (hl2 : l2.length = n) (w : World) (h : RC w w.heap.size A l) (hd : InsertDoes w l l2 n P1 P2 P3) :
    Calls Tryd.prog 48 #[.slice A n c, .int .i64 x, .func (.func 64) #[] #[.pointer (some ⟨P1, 0, none⟩), .pointer (some ⟨P2, 0, none⟩), .pointer (some ⟨P3, 0, none⟩)]] w fun e w' => ∃ v, e = .returned v ∧ OC w.heap.size w' v (mendL l2) ∧ Below w.heap.size w w' := by
  have HM := Lib.hid (mend_any A l n c hn hl w h)
  have hlen : (mendL l).length = n := by rw [mendL_len, hn]
  have HF : Hid (∀ W v, OC w.heap.size W v (mendL l) → ∃ g c', v = .slice (some ⟨g, 0, none⟩) n c' ∧ w.heap.size ≤ g ∧ n ≤ c' ∧ MC W g (mendL l)) := Lib.hid fun W v ho => by
    obtain ⟨g, c', e, h1, h2, h3⟩ := ho.some (by omega)
    exact ⟨g, c', by rw [e, hlen], h1, by omega, h3⟩
  have HD := Lib.hid hd
  unfold InsertDoes at HD
  have HE : Hid (∀ W g c', n ≤ c' → MC W g l2 → Calls Tryd.prog 30 #[.slice (some ⟨g, 0, none⟩) n c'] W fun e w' => e = .returned (.tuple #[]) ∧ MC w' g (mendL l2) ∧ KG g W w') := Lib.hid fun W g c' hc hm => mendc_any g n c' _ hl2.symm (by omega) hc W hm
  have HL3 : Hid ((mendL l2).length = n) := Lib.hid (by rw [mendL_len, hl2])
  have hd1 : decide ((0 : Int) ≤ x) = true := decide_eq_true (by omega)
  have hd2 : decide ((x : Int) < n) = true := decide_eq_true (by omega)
  have hd3 : decide (x < n) = true := decide_eq_true hx
  clear h hd hlen hl2 hn
  generalize mendL l2 = l3 at *
  generalize mendL l = l1 at *
  go_enter Tryd.func48, Tryd.ntmps48
  go_wp2_with (first
    | (go_at_call 12; (with_reducible refine (HM.out).mono ?_); rintro e w1 ⟨v, rfl, ho, hb⟩; obtain ⟨g, c', rfl, hg, hc', hm⟩ := HF.out _ _ ho; have HB1 := Lib.hid hb; have HM1 := Lib.hid hm; clear ho hb hm)
    | (go_at_call 64; (with_reducible refine (HD.out _ _ _ HB1.out hc' HM1.out).mono ?_); rintro e w2 ⟨rfl, hm2, hk2⟩; have HM2 := Lib.hid hm2; have HK2 := Lib.hid hk2; clear hm2 hk2)
    | (go_at_call 30; (with_reducible refine (HE.out _ _ _ hc' HM2.out).mono ?_); rintro e w3 ⟨rfl, hm3, hk3⟩; have HM3 := Lib.hid hm3; have HK3 := Lib.hid (Below.ofKG HB1.out (HK2.out.trans hk3) hg (HB1.out).size); clear hm3 hk3))
  go_ret
  exact ⟨.slice (some ⟨g, 0, none⟩) n c', rfl, .inr ⟨g, c', by rw [HL3.out], hg, by rw [HL3.out]; exact hc', HM3.out⟩, HK3.out⟩
def DeleteDoes (w : World) (g0 : List CC) (l2 : List CC) (n P1 P2 P3 : Nat) : Prop :=
  ∀ W g c', Below w.heap.size w W → n ≤ c' → MC W g (mendL g0) → Calls Tryd.prog 65 #[.slice (some ⟨g, 0, none⟩) n c', .pointer (some ⟨P1, 0, none⟩), .pointer (some ⟨P2, 0, none⟩), .pointer (some ⟨P3, 0, none⟩)] W fun e w' => e = .returned (.tuple #[]) ∧ MC w' g l2 ∧ KG g W w'
set_option maxRecDepth 100000 in
set_option maxHeartbeats 4000000 in
theorem atDelete_in (A : Option Addr) (l l2 : List CC) (n c x P1 P2 P3 : Nat) (hn : n = l.length) (hl : n ≤ 1000) (hx : x < n) (hl2 : l2.length = n) (w : World) (h : RC w w.heap.size A l) (hd : DeleteDoes w l l2 n P1 P2 P3) :
    Calls Tryd.prog 48 #[.slice A n c, .int .i64 x, .func (.func 65) #[] #[.pointer (some ⟨P1, 0, none⟩), .pointer (some ⟨P2, 0, none⟩), .pointer (some ⟨P3, 0, none⟩)]] w fun e w' => ∃ v, e = .returned v ∧ OC w.heap.size w' v (mendL l2) ∧ Below w.heap.size w w' := by
  have HM := Lib.hid (mend_any A l n c hn hl w h)
  have hlen : (mendL l).length = n := by rw [mendL_len, hn]
  have HF : Hid (∀ W v, OC w.heap.size W v (mendL l) → ∃ g c', v = .slice (some ⟨g, 0, none⟩) n c' ∧ w.heap.size ≤ g ∧ n ≤ c' ∧ MC W g (mendL l)) := Lib.hid fun W v ho => by
    obtain ⟨g, c', e, h1, h2, h3⟩ := ho.some (by omega)
    exact ⟨g, c', by rw [e, hlen], h1, by omega, h3⟩
  have HD := Lib.hid hd
  unfold DeleteDoes at HD
  have HE : Hid (∀ W g c', n ≤ c' → MC W g l2 → Calls Tryd.prog 30 #[.slice (some ⟨g, 0, none⟩) n c'] W fun e w' => e = .returned (.tuple #[]) ∧ MC w' g (mendL l2) ∧ KG g W w') := Lib.hid fun W g c' hc hm => mendc_any g n c' _ hl2.symm (by omega) hc W hm
  have HL3 : Hid ((mendL l2).length = n) := Lib.hid (by rw [mendL_len, hl2])
  have hd1 : decide ((0 : Int) ≤ x) = true := decide_eq_true (by omega)
  have hd2 : decide ((x : Int) < n) = true := decide_eq_true (by omega)
  have hd3 : decide (x < n) = true := decide_eq_true hx
  clear h hd hlen hl2 hn
  generalize mendL l2 = l3 at *
  generalize mendL l = l1 at *
  go_enter Tryd.func48, Tryd.ntmps48
  go_wp2_with (first
    | (go_at_call 12; (with_reducible refine (HM.out).mono ?_); rintro e w1 ⟨v, rfl, ho, hb⟩; obtain ⟨g, c', rfl, hg, hc', hm⟩ := HF.out _ _ ho; have HB1 := Lib.hid hb; have HM1 := Lib.hid hm; clear ho hb hm)
    | (go_at_call 65; (with_reducible refine (HD.out _ _ _ HB1.out hc' HM1.out).mono ?_); rintro e w2 ⟨rfl, hm2, hk2⟩; have HM2 := Lib.hid hm2; have HK2 := Lib.hid hk2; clear hm2 hk2)
    | (go_at_call 30; (with_reducible refine (HE.out _ _ _ hc' HM2.out).mono ?_); rintro e w3 ⟨rfl, hm3, hk3⟩; have HM3 := Lib.hid hm3; have HK3 := Lib.hid (Below.ofKG HB1.out (HK2.out.trans hk3) hg (HB1.out).size); clear hm3 hk3))
  go_ret
  exact ⟨.slice (some ⟨g, 0, none⟩) n c', rfl, .inr ⟨g, c', by rw [HL3.out], hg, by rw [HL3.out]; exact hc', HM3.out⟩, HK3.out⟩
/-- What Close makes of a row. -/
def closeRow (l : List CC) : List CC := if 0 < l.length then mendL ((mendL l).set (l.length - 1) padC) else mendL l
set_option maxRecDepth 100000 in
set_option maxHeartbeats 4000000 in
theorem close_any (A : Option Addr) (l : List CC) (n c : Nat) (hn : n = l.length) (hl : n ≤ 1000) (w : World) (h : RC w w.heap.size A l) :
    Calls Tryd.prog 39 #[.slice A n c] w fun e w' => ∃ v, e = .returned v ∧ OC w.heap.size w' v (closeRow l) ∧ Below w.heap.size w w' := by
  have hb := belA (Below.refl w.heap.size w) (.cells #[.int .i64 ((n : Int) - 1)] 3)
  have hx1 := heap_alloc_new w (.cells #[.int .i64 ((n : Int) - 1)] 3)
  have HAT : Hid (Calls Tryd.prog 48 #[.slice A n c, .int .i64 ((n : Int) - 1), .func (.func 66) #[] #[.pointer (some ⟨w.heap.size, 0, none⟩)]] (w.alloc (.cells #[.int .i64 ((n : Int) - 1)] 3)) fun e w' => ∃ v, e = .returned v ∧ OC w.heap.size w' v (closeRow l) ∧ Below w.heap.size w w') := Lib.hid (by
    unfold closeRow
    by_cases h0 : 0 < l.length
    · rw [if_pos h0]
      obtain ⟨x, hx⟩ : ∃ x : Nat, l.length = x + 1 := ⟨l.length - 1, by omega⟩
      have e1 : ((n : Int) - 1) = (x : Int) := by omega
      rw [e1] at hx1 ⊢
      rw [e1] at hb
      rw [hx, Nat.add_sub_cancel]
      refine (atClose_in A l ((mendL l).set x padC) n c x w.heap.size hn hl (by omega) (by simp [mendL_len, hn]) _ (h.past hb) fun W g c' hW _ hm => closeFn_any g n c' x w.heap.size _ (by rw [mendL_len, hn]) (by omega) W hm ((hW.block _ (by simp)).trans hx1)).mono fun e w' ⟨v, he, ho, hb'⟩ => ⟨v, he, ho.lower hb.size, bel0 hb hb'⟩
    · rw [if_neg h0]
      exact (atClose_out A l n c _ _ hn hl (by omega) _ (h.past hb)).mono fun e w' ⟨v, he, ho, hb'⟩ => ⟨v, he, ho.lower hb.size, bel0 hb hb'⟩)
  have hw : IntKind.i64.wrap ((n : Int) - 1) = (n : Int) - 1 := by rw [IntKind.wrap_i64]; omega
  clear h hn hl hb hx1
  generalize closeRow l = L at *
  go_enter Tryd.func39, Tryd.ntmps39
  go_wp2_with (go_at_call 48; (with_reducible refine (HAT.out).mono ?_); rintro e w1 ⟨v, rfl, ho, hb⟩; have HO1 := Lib.hid ho; have HB1 := Lib.hid hb; clear ho hb)
  go_ret
  exact ⟨_, rfl, HO1.out, HB1.out⟩
end Go.Proofs.YtoiekhjmfoodiaaDoor
