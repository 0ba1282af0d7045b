/- The walk of cells.Put at any place; at with each closure where the place is not there; Close. -/
import Derived.Test.YtoiekhjmfoodiaaDoorGv
namespace Go.Proofs.YtoiekhjmfoodiaaDoor
open Go.RowKit

set_option maxRecDepth 100000 in
set_option maxHeartbeats 4000000 in
theorem atPut_out (A : Option Addr) (l : List CC) (n c : Nat) (z : Int) (caps : Array Value) (hn : n = l.length) (hl : n ≤ 1000) (hz : z < 0 ∨ (n : Int) ≤ z) (w : World) (h : RC w w.heap.size A l) :
    Calls Tryd.prog 48 #[.slice A n c, .int .i64 z, .func (.func 49) #[] caps] w fun e w' => ∃ v, e = .returned v ∧ OC w.heap.size w' v (mendL l) ∧ Below w.heap.size w w' := by
  have HM := Lib.hid (mend_any A l n c hn hl w h)
  have hlen : (mendL l).length = n := by rw [mendL_len, hn]
  have HF : Hid (∀ W v, OC w.heap.size W v (mendL l) → ∃ A' c', v = .slice A' n c') := Lib.hid fun W v ho => by
    obtain ⟨A', c', e, _⟩ := ho.form
    exact ⟨A', c', by rw [e, hlen]⟩
  clear h hlen hn
  generalize mendL l = l1 at *
  by_cases h0 : 0 ≤ z
  · have hd1 : decide ((0 : Int) ≤ z) = true := decide_eq_true h0
    have hd2 : decide (z < (n : Int)) = false := decide_eq_false (by omega)
    clear hz h0
    go_enter Tryd.func48, Tryd.ntmps48
    go_wp2_with (go_at_call 12; (with_reducible refine (HM.out).mono ?_); rintro e w1 ⟨v, rfl, ho, hb⟩; obtain ⟨A', c', rfl⟩ := HF.out _ _ ho; have HB1 := Lib.hid hb; have HO1 := Lib.hid ho; clear ho hb)
    go_ret
    exact ⟨_, rfl, HO1.out, HB1.out⟩
  · have hd1 : decide ((0 : Int) ≤ z) = false := decide_eq_false h0
    clear hz h0
    go_enter Tryd.func48, Tryd.ntmps48
    go_wp2_with (go_at_call 12; (with_reducible refine (HM.out).mono ?_); rintro e w1 ⟨v, rfl, ho, hb⟩; obtain ⟨A', c', rfl⟩ := HF.out _ _ ho; have HB1 := Lib.hid hb; have HO1 := Lib.hid ho; clear ho hb)
    go_ret
    exact ⟨_, rfl, HO1.out, HB1.out⟩
set_option maxRecDepth 100000 in
set_option maxHeartbeats 4000000 in
theorem atMark_out (A : Option Addr) (l : List CC) (n c : Nat) (z : Int) (caps : Array Value) (hn : n = l.length) (hl : n ≤ 1000) (hz : z < 0 ∨ (n : Int) ≤ z) (w : World) (h : RC w w.heap.size A l) :
    Calls Tryd.prog 48 #[.slice A n c, .int .i64 z, .func (.func 63) #[] caps] w fun e w' => ∃ v, e = .returned v ∧ OC w.heap.size w' v (mendL l) ∧ Below w.heap.size w w' := by
  have HM := Lib.hid (mend_any A l n c hn hl w h)
  have hlen : (mendL l).length = n := by rw [mendL_len, hn]
  have HF : Hid (∀ W v, OC w.heap.size W v (mendL l) → ∃ A' c', v = .slice A' n c') := Lib.hid fun W v ho => by
    obtain ⟨A', c', e, _⟩ := ho.form
    exact ⟨A', c', by rw [e, hlen]⟩
  clear h hlen hn
  generalize mendL l = l1 at *
  by_cases h0 : 0 ≤ z
  · have hd1 : decide ((0 : Int) ≤ z) = true := decide_eq_true h0
    have hd2 : decide (z < (n : Int)) = false := decide_eq_false (by omega)
    clear hz h0
    go_enter Tryd.func48, Tryd.ntmps48
    go_wp2_with (go_at_call 12; (with_reducible refine (HM.out).mono ?_); rintro e w1 ⟨v, rfl, ho, hb⟩; obtain ⟨A', c', rfl⟩ := HF.out _ _ ho; have HB1 := Lib.hid hb; have HO1 := Lib.hid ho; clear ho hb)
    go_ret
    exact ⟨_, rfl, HO1.out, HB1.out⟩
  · have hd1 : decide ((0 : Int) ≤ z) = false := decide_eq_false h0
    clear hz h0
    go_enter Tryd.func48, Tryd.ntmps48
    go_wp2_with (go_at_call 12; (with_reducible refine (HM.out).mono ?_); rintro e w1 ⟨v, rfl, ho, hb⟩; obtain ⟨A', c', rfl⟩ := HF.out _ _ ho; have HB1 := Lib.hid hb; have HO1 := Lib.hid ho; clear ho hb)
    go_ret
    exact ⟨_, rfl, HO1.out, HB1.out⟩
set_option maxRecDepth 100000 in
set_option maxHeartbeats 4000000 in
theorem atClose_out (A : Option Addr) (l : List CC) (n c : Nat) (z : Int) (caps : Array Value) (hn : n = l.length) (hl : n ≤ 1000) (hz : z < 0 ∨ (n : Int) ≤ z) (w : World) (h : RC w w.heap.size A l) :
    Calls Tryd.prog 48 #[.slice A n c, .int .i64 z, .func (.func 66) #[] caps] w fun e w' => ∃ v, e = .returned v ∧ OC w.heap.size w' v (mendL l) ∧ Below w.heap.size w w' := by
  have HM := Lib.hid (mend_any A l n c hn hl w h)
  have hlen : (mendL l).length = n := by rw [mendL_len, hn]
  have HF : Hid (∀ W v, OC w.heap.size W v (mendL l) → ∃ A' c', v = .slice A' n c') := Lib.hid fun W v ho => by
    obtain ⟨A', c', e, _⟩ := ho.form
    exact ⟨A', c', by rw [e, hlen]⟩
  clear h hlen hn
  generalize mendL l = l1 at *
  by_cases h0 : 0 ≤ z
  · have hd1 : decide ((0 : Int) ≤ z) = true := decide_eq_true h0
    have hd2 : decide (z < (n : Int)) = false := decide_eq_false (by omega)
    clear hz h0
    go_enter Tryd.func48, Tryd.ntmps48
    go_wp2_with (go_at_call 12; (with_reducible refine (HM.out).mono ?_); rintro e w1 ⟨v, rfl, ho, hb⟩; obtain ⟨A', c', rfl⟩ := HF.out _ _ ho; have HB1 := Lib.hid hb; have HO1 := Lib.hid ho; clear ho hb)
    go_ret
    exact ⟨_, rfl, HO1.out, HB1.out⟩
  · have hd1 : decide ((0 : Int) ≤ z) = false := decide_eq_false h0
    clear hz h0
    go_enter Tryd.func48, Tryd.ntmps48
    go_wp2_with (go_at_call 12; (with_reducible refine (HM.out).mono ?_); rintro e w1 ⟨v, rfl, ho, hb⟩; obtain ⟨A', c', rfl⟩ := HF.out _ _ ho; have HB1 := Lib.hid hb; have HO1 := Lib.hid ho; clear ho hb)
    go_ret
    exact ⟨_, rfl, HO1.out, HB1.out⟩
set_option maxRecDepth 100000 in
set_option maxHeartbeats 4000000 in
theorem atInsert_out (A : Option Addr) (l : List CC) (n c : Nat) (z : Int) (caps : Array Value) (hn : n = l.length) (hl : n ≤ 1000) (hz : z < 0 ∨ (n : Int) ≤ z) (w : World) (h : RC w w.heap.size A l) :
    Calls Tryd.prog 48 #[.slice A n c, .int .i64 z, .func (.func 64) #[] caps] w fun e w' => ∃ v, e = .returned v ∧ OC w.heap.size w' v (mendL l) ∧ Below w.heap.size w w' := by
  have HM := Lib.hid (mend_any A l n c hn hl w h)
  have hlen : (mendL l).length = n := by rw [mendL_len, hn]
  have HF : Hid (∀ W v, OC w.heap.size W v (mendL l) → ∃ A' c', v = .slice A' n c') := Lib.hid fun W v ho => by
    obtain ⟨A', c', e, _⟩ := ho.form
    exact ⟨A', c', by rw [e, hlen]⟩
  clear h hlen hn
  generalize mendL l = l1 at *
  by_cases h0 : 0 ≤ z
  · have hd1 : decide ((0 : Int) ≤ z) = true := decide_eq_true h0
    have hd2 : decide (z < (n : Int)) = false := decide_eq_false (by omega)
    clear hz h0
    go_enter Tryd.func48, Tryd.ntmps48
    go_wp2_with (go_at_call 12; (with_reducible refine (HM.out).mono ?_); rintro e w1 ⟨v, rfl, ho, hb⟩; obtain ⟨A', c', rfl⟩ := HF.out _ _ ho; have HB1 := Lib.hid hb; have HO1 := Lib.hid ho; clear ho hb)
    go_ret
    exact ⟨_, rfl, HO1.out, HB1.out⟩
  · have hd1 : decide ((0 : Int) ≤ z) = false := decide_eq_false h0
    clear hz h0
    go_enter Tryd.func48, Tryd.ntmps48
    go_wp2_with (go_at_call 12; (with_reducible refine (HM.out).mono ?_); rintro e w1 ⟨v, rfl, ho, hb⟩; obtain ⟨A', c', rfl⟩ := HF.out _ _ ho; have HB1 := Lib.hid hb; have HO1 := Lib.hid ho; clear ho hb)
    go_ret
    exact ⟨_, rfl, HO1.out, HB1.out⟩
set_option maxRecDepth 100000 in
set_option maxHeartbeats 4000000 in
theorem atDelete_out (A : Option Addr) (l : List CC) (n c : Nat) (z : Int) (caps : Array Value) (hn : n = l.length) (hl : n ≤ 1000) (hz : z < 0 ∨ (n : Int) ≤ z) (w : World) (h : RC w w.heap.size A l) :
    Calls Tryd.prog 48 #[.slice A n c, .int .i64 z, .func (.func 65) #[] caps] w fun e w' => ∃ v, e = .returned v ∧ OC w.heap.size w' v (mendL l) ∧ Below w.heap.size w w' := by
  have HM := Lib.hid (mend_any A l n c hn hl w h)
  have hlen : (mendL l).length = n := by rw [mendL_len, hn]
  have HF : Hid (∀ W v, OC w.heap.size W v (mendL l) → ∃ A' c', v = .slice A' n c') := Lib.hid fun W v ho => by
    obtain ⟨A', c', e, _⟩ := ho.form
    exact ⟨A', c', by rw [e, hlen]⟩
  clear h hlen hn
  generalize mendL l = l1 at *
  by_cases h0 : 0 ≤ z
  · have hd1 : decide ((0 : Int) ≤ z) = true := decide_eq_true h0
    have hd2 : decide (z < (n : Int)) = false := decide_eq_false (by omega)
    clear hz h0
    go_enter Tryd.func48, Tryd.ntmps48
    go_wp2_with (go_at_call 12; (with_reducible refine (HM.out).mono ?_); rintro e w1 ⟨v, rfl, ho, hb⟩; obtain ⟨A', c', rfl⟩ := HF.out _ _ ho; have HB1 := Lib.hid hb; have HO1 := Lib.hid ho; clear ho hb)
    go_ret
    exact ⟨_, rfl, HO1.out, HB1.out⟩
  · have hd1 : decide ((0 : Int) ≤ z) = false := decide_eq_false h0
    clear hz h0
    go_enter Tryd.func48, Tryd.ntmps48
    go_wp2_with (go_at_call 12; (with_reducible refine (HM.out).mono ?_); rintro e w1 ⟨v, rfl, ho, hb⟩; obtain ⟨A', c', rfl⟩ := HF.out _ _ ho; have HB1 := Lib.hid hb; have HO1 := Lib.hid ho; clear ho hb)
    go_ret
    exact ⟨_, rfl, HO1.out, HB1.out⟩
set_option maxRecDepth 100000 in
set_option maxHeartbeats 4000000 in
theorem put_via (A : Option Addr) (LL : List CC) (n c : Nat) (z : Int) (x0 : CC) (w : World) (hT : WT w)
    (hd : ∀ W P1 P2 P3 P4, Below w.heap.size w W → W.heap[P1]? = some (.cells #[.int .i32 x0.r] 21 (0, 0)) → W.heap[P2]? = some (.cells #[.int .i64 x0.fk, .int .i64 x0.fn, .int .i64 x0.bk, .int .i64 x0.bn, .int .i64 x0.fl] 35 (0, 0)) → W.heap[P3]? = some (.cells #[.int .i64 (ofZ x0.r)] 3 (0, 0)) → W.heap[P4]? = some (.cells #[.int .i64 z] 3 (0, 0)) →
      Calls Tryd.prog 48 #[.slice A n c, .int .i64 z, .func (.func 49) #[] #[.pointer (some ⟨P1, 0, none⟩), .pointer (some ⟨P2, 0, none⟩), .pointer (some ⟨P3, 0, none⟩), .pointer (some ⟨P4, 0, none⟩)]] W fun e w' => ∃ v, e = .returned v ∧ OC W.heap.size w' v LL ∧ Below W.heap.size W w') :
    Calls Tryd.prog 22 #[.slice A n c, .int .i64 z, .int .i32 x0.r, .agg #[.int .i64 x0.fk, .int .i64 x0.fn, .int .i64 x0.bk, .int .i64 x0.bn, .int .i64 x0.fl]] w fun e w' => ∃ v, e = .returned v ∧ OC w.heap.size w' v LL ∧ Below w.heap.size w w' := by
  have hb1 : Below w.heap.size w (((w.alloc (.cells #[.int .i64 z] 3)).alloc (.cells #[.int .i32 x0.r] 21)).alloc (.cells #[.int .i64 x0.fk, .int .i64 x0.fn, .int .i64 x0.bk, .int .i64 x0.bn, .int .i64 x0.fl] 35)) := belA (belA (belA (Below.refl _ _) _) _) _
  have s0 : (w.alloc (.cells #[.int .i64 z] 3)).heap.size = w.heap.size + 1 := by simp
  have s1 : ((w.alloc (.cells #[.int .i64 z] 3)).alloc (.cells #[.int .i32 x0.r] 21)).heap.size = w.heap.size + 2 := by simp
  have s2 : (((w.alloc (.cells #[.int .i64 z] 3)).alloc (.cells #[.int .i32 x0.r] 21)).alloc (.cells #[.int .i64 x0.fk, .int .i64 x0.fn, .int .i64 x0.bk, .int .i64 x0.bn, .int .i64 x0.fl] 35)).heap.size = w.heap.size + 3 := by simp
  have b1 : (((w.alloc (.cells #[.int .i64 z] 3)).alloc (.cells #[.int .i32 x0.r] 21)).alloc (.cells #[.int .i64 x0.fk, .int .i64 x0.fn, .int .i64 x0.bk, .int .i64 x0.bn, .int .i64 x0.fl] 35)).heap[w.heap.size]? = some (.cells #[.int .i64 z] 3 (0, 0)) :=
    ((belA (belA (Below.refl (w.alloc (.cells #[.int .i64 z] 3)).heap.size _) (.cells #[.int .i32 x0.r] 21)) (.cells #[.int .i64 x0.fk, .int .i64 x0.fn, .int .i64 x0.bk, .int .i64 x0.bn, .int .i64 x0.fl] 35)).block w.heap.size (by omega)).trans (heap_alloc_new w _)
  have b2 : (((w.alloc (.cells #[.int .i64 z] 3)).alloc (.cells #[.int .i32 x0.r] 21)).alloc (.cells #[.int .i64 x0.fk, .int .i64 x0.fn, .int .i64 x0.bk, .int .i64 x0.bn, .int .i64 x0.fl] 35)).heap[w.heap.size + 1]? = some (.cells #[.int .i32 x0.r] 21 (0, 0)) := by
    have n2 := heap_alloc_new (w.alloc (.cells #[.int .i64 z] 3)) (.cells #[.int .i32 x0.r] 21)
    rw [s0] at n2
    exact ((belA (Below.refl ((w.alloc (.cells #[.int .i64 z] 3)).alloc (.cells #[.int .i32 x0.r] 21)).heap.size _) (.cells #[.int .i64 x0.fk, .int .i64 x0.fn, .int .i64 x0.bk, .int .i64 x0.bn, .int .i64 x0.fl] 35)).block (w.heap.size + 1) (by omega)).trans n2
  have b3 : (((w.alloc (.cells #[.int .i64 z] 3)).alloc (.cells #[.int .i32 x0.r] 21)).alloc (.cells #[.int .i64 x0.fk, .int .i64 x0.fn, .int .i64 x0.bk, .int .i64 x0.bn, .int .i64 x0.fl] 35)).heap[w.heap.size + 2]? = some (.cells #[.int .i64 x0.fk, .int .i64 x0.fn, .int .i64 x0.bk, .int .i64 x0.bn, .int .i64 x0.fl] 35 (0, 0)) := by
    have n3 := heap_alloc_new ((w.alloc (.cells #[.int .i64 z] 3)).alloc (.cells #[.int .i32 x0.r] 21)) (.cells #[.int .i64 x0.fk, .int .i64 x0.fn, .int .i64 x0.bk, .int .i64 x0.bn, .int .i64 x0.fl] 35)
    rw [s1] at n3
    exact n3
  have HB0 := Lib.hid hb1
  generalize HW3 : (((w.alloc (.cells #[.int .i64 z] 3)).alloc (.cells #[.int .i32 x0.r] 21)).alloc (.cells #[.int .i64 x0.fk, .int .i64 x0.fn, .int .i64 x0.bk, .int .i64 x0.bn, .int .i64 x0.fl] 35)) = w3 at *
  have HOF : Hid (Calls Tryd.prog 47 #[.int .i32 x0.r] w3 fun e w' => e = .returned (.int .i64 (ofZ x0.r)) ∧ Below w3.heap.size w3 w') := Lib.hid (widthOf_any x0.r w3 (hT.below hb1))
  have HAT : Hid (∀ W, Below w3.heap.size w3 W → Calls Tryd.prog 48 #[.slice A n c, .int .i64 z, .func (.func 49) #[] #[.pointer (some ⟨w.heap.size + 1, 0, none⟩), .pointer (some ⟨w.heap.size + 1 + 1, 0, none⟩), .pointer (some ⟨W.heap.size, 0, none⟩), .pointer (some ⟨w.heap.size, 0, none⟩)]] (W.alloc (.cells #[.int .i64 (ofZ x0.r)] 3)) fun e w' => ∃ v, e = .returned v ∧ OC w.heap.size w' v (LL) ∧ Below w.heap.size w w') := Lib.hid fun W hW => by
    have hWa : Below w3.heap.size w3 (W.alloc (.cells #[.int .i64 (ofZ x0.r)] 3)) := hW.alloc hW.size _
    have hb := bel0 hb1 hWa
    refine (hd _ _ _ _ _ hb ((hWa.block _ (by omega)).trans b2) ((hWa.block _ (by omega)).trans b3) (heap_alloc_new W _) ((hWa.block _ (by omega)).trans b1)).mono fun e w' ⟨v, he, ho, hb'⟩ => ⟨v, he, ho.lower hb.size, bel0 hb hb'⟩
  have HC6 : Hid (w3.cell? ⟨w.heap.size + 1, 0, none⟩ = some (.int .i32 x0.r)) := Lib.hid (cell_of_row _ _ 0 _ _ _ b2)
  have HC5 : Hid (∀ W, Below w3.heap.size w3 W → (W.alloc (.cells #[.int .i64 (ofZ x0.r)] 3)).cell? ⟨w.heap.size, 0, none⟩ = some (.int .i64 z)) := Lib.hid fun W hW => cell_of_row _ _ 0 _ _ _ (((hW.alloc hW.size (.cells #[.int .i64 (ofZ x0.r)] 3)).block _ (by omega)).trans b1)
  have HE := Lib.hid HW3
  clear HW3 hd hT hb1 s0 s1 s2 b1 b2 b3
  generalize ofZ x0.r = zz at *
  go_enter Tryd.func22, Tryd.ntmps22
  go_wp2_with (first
    | (go_at_call 47; rw [HE.out]; (with_reducible refine (HOF.out).mono ?_); rintro e w4 ⟨rfl, hb4⟩; have HB4 := Lib.hid hb4; have c5 := HC5.out _ hb4; clear hb4)
    | (go_at_call 48; (with_reducible refine (HAT.out _ HB4.out).mono ?_); rintro e w5 ⟨v, rfl, ho, hb⟩; have HO1 := Lib.hid ho; have HB1 := Lib.hid hb; clear ho hb))
  go_ret
  exact ⟨_, rfl, HO1.out, HB1.out⟩
/-- What Put makes of a row. -/
def putRow (l : List CC) (z : Int) (x0 : CC) : List CC :=
  if 0 ≤ z ∧ z < (l.length : Int) then mendL (if ofZ x0.r = 1 then (mendL l).set z.toNat (putC x0) else if ofZ x0.r = 2 ∧ z.toNat + 1 < l.length then ((mendL l).set z.toNat (leftC x0)).set (z.toNat + 1) (rightC x0) else mendL l) else mendL l
theorem put_any (A : Option Addr) (l : List CC) (n c : Nat) (z : Int) (x0 : CC) (hn : n = l.length) (hl : n ≤ 1000) (w : World) (hT : WT w) (h : RC w w.heap.size A l) :
    Calls Tryd.prog 22 #[.slice A n c, .int .i64 z, .int .i32 x0.r, .agg #[.int .i64 x0.fk, .int .i64 x0.fn, .int .i64 x0.bk, .int .i64 x0.bn, .int .i64 x0.fl]] w fun e w' => ∃ v, e = .returned v ∧ OC w.heap.size w' v (putRow l z x0) ∧ Below w.heap.size w w' := by
  refine put_via A _ n c z x0 w hT fun W P1 P2 P3 P4 hW h1 h2 h3 h4 => ?_
  have hR := h.past hW
  unfold putRow
  by_cases hz : 0 ≤ z ∧ z < (l.length : Int)
  · rw [if_pos hz]
    obtain ⟨x, hx⟩ : ∃ x : Nat, z = x := ⟨z.toNat, by omega⟩
    subst hx
    have hxl : x < l.length := by omega
    rw [Int.toNat_natCast]
    have hp : PutC W P1 P2 P3 P4 x0 (ofZ x0.r) x := ⟨h1, h2, h3, h4⟩
    by_cases e1 : ofZ x0.r = 1
    · rw [if_pos e1]
      rw [e1] at hp
      exact atPut_in A l _ n c x P1 P2 P3 P4 hn hl (by omega) (by simp [mendL_len, hn]) W hR fun V g c' hV _ hm => putFn_one g n c' x P1 P2 P3 P4 _ x0 (by rw [mendL_len, hn]) (by omega) V hm (hp.past hV)
    · rw [if_neg e1]
      by_cases e2 : ofZ x0.r = 2 ∧ x + 1 < l.length
      · rw [if_pos e2]
        rw [e2.1] at hp
        exact atPut_in A l _ n c x P1 P2 P3 P4 hn hl (by omega) (by simp [mendL_len, hn]) W hR fun V g c' hV _ hm => putFn_two g n c' x P1 P2 P3 P4 _ x0 (by rw [mendL_len, hn]) hl (by omega) V hm (hp.past hV)
      · rw [if_neg e2]
        exact atPut_in A l _ n c x P1 P2 P3 P4 hn hl (by omega) (by simp [mendL_len, hn]) W hR fun V g c' hV _ hm => putFn_none g n c' x P1 P2 P3 P4 _ x0 (ofZ x0.r) hl (by omega) ⟨e1, by
          by_cases e3 : ofZ x0.r = 2
          · right
            have : ¬ x + 1 < l.length := fun h => e2 ⟨e3, h⟩
            omega
          · exact .inl e3⟩ V hm (hp.past hV)
  · rw [if_neg hz]
    exact atPut_out A l n c z _ hn hl (by omega) W hR
end Go.Proofs.YtoiekhjmfoodiaaDoor
