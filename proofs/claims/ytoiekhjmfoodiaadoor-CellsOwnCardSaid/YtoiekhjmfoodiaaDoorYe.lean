/- at with each closure where the place is there; Close; Insert's closure. -/
import Derived.Test.YtoiekhjmfoodiaaDoorYc
import Derived.Test.YtoiekhjmfoodiaaDoorYd
namespace Go.Proofs.YtoiekhjmfoodiaaDoor
open Go.RowKit

def MarkDoes (w : World) (g0 : List CC) (l2 : List CC) (n P1 P2 P3 : Nat) : Prop :=
  ∀ W g c', Below w.heap.size w W → n ≤ c' → MC W g (mendL g0) → Calls Tryd.prog 63 #[.slice (some ⟨g, 0, none⟩) n c', .pointer (some ⟨P1, 0, none⟩), .pointer (some ⟨P2, 0, none⟩), .pointer (some ⟨P3, 0, none⟩)] W fun e w' => e = .returned (.tuple #[]) ∧ MC w' g l2 ∧ KG g W w'
set_option maxRecDepth 100000 in
set_option maxHeartbeats 4000000 in
theorem atMark_in (A : Option Addr) (l l2 : List CC) (n c x P1 P2 P3 : Nat) (hn : n = l.length) (hl : n ≤ 1000) (hx : x < n) (hl2 : l2.length = n) (w : World) (h : RC w w.heap.size A l) (hd : MarkDoes w l l2 n P1 P2 P3) :
    Calls Tryd.prog 48 #[.slice A n c, .int .i64 x, .func (.func 63) #[] #[.pointer (some ⟨P1, 0, none⟩), .pointer (some ⟨P2, 0, none⟩), .pointer (some ⟨P3, 0, none⟩)]] w fun e w' => ∃ v, e = .returned v ∧ OC w.heap.size w' v (mendL l2) ∧ Below w.heap.size w w' := by
  have HM := Lib.hid (mend_any A l n c hn hl w h)
  have hlen : (mendL l).length = n := by rw [mendL_len, hn]
  have HF : Hid (∀ W v, OC w.heap.size W v (mendL l) → ∃ g c', v = .slice (some ⟨g, 0, none⟩) n c' ∧ w.heap.size ≤ g ∧ n ≤ c' ∧ MC W g (mendL l)) := Lib.hid fun W v ho => by
    obtain ⟨g, c', e, h1, h2, h3⟩ := ho.some (by omega)
    exact ⟨g, c', by rw [e, hlen], h1, by omega, h3⟩
  have HD := Lib.hid hd
  unfold MarkDoes at HD
  have HE : Hid (∀ W g c', n ≤ c' → MC W g l2 → Calls Tryd.prog 30 #[.slice (some ⟨g, 0, none⟩) n c'] W fun e w' => e = .returned (.tuple #[]) ∧ MC w' g (mendL l2) ∧ KG g W w') := Lib.hid fun W g c' hc hm => mendc_any g n c' _ hl2.symm (by omega) hc W hm
  have HL3 : Hid ((mendL l2).length = n) := Lib.hid (by rw [mendL_len, hl2])
  have hd1 : decide ((0 : Int) ≤ x) = true := decide_eq_true (by omega)
  have hd2 : decide ((x : Int) < n) = true := decide_eq_true (by omega)
  have hd3 : decide (x < n) = true := decide_eq_true hx
  clear h hd hlen hl2 hn
  generalize mendL l2 = l3 at *
  generalize mendL l = l1 at *
  go_enter Tryd.func48, Tryd.ntmps48
  go_wp2_with (first
    | (go_at_call 12; (with_reducible refine (HM.out).mono ?_); rintro e w1 ⟨v, rfl, ho, hb⟩; obtain ⟨g, c', rfl, hg, hc', hm⟩ := HF.out _ _ ho; have HB1 := Lib.hid hb; have HM1 := Lib.hid hm; clear ho hb hm)
    | (go_at_call 63; (with_reducible refine (HD.out _ _ _ HB1.out hc' HM1.out).mono ?_); rintro e w2 ⟨rfl, hm2, hk2⟩; have HM2 := Lib.hid hm2; have HK2 := Lib.hid hk2; clear hm2 hk2)
    | (go_at_call 30; (with_reducible refine (HE.out _ _ _ hc' HM2.out).mono ?_); rintro e w3 ⟨rfl, hm3, hk3⟩; have HM3 := Lib.hid hm3; have HK3 := Lib.hid (Below.ofKG HB1.out (HK2.out.trans hk3) hg (HB1.out).size); clear hm3 hk3))
  go_ret
  exact ⟨.slice (some ⟨g, 0, none⟩) n c', rfl, .inr ⟨g, c', by rw [HL3.out], hg, by rw [HL3.out]; exact hc', HM3.out⟩, HK3.out⟩
def CloseDoes (w : World) (g0 : List CC) (l2 : List CC) (n P1 : Nat) : Prop :=
  ∀ W g c', Below w.heap.size w W → n ≤ c' → MC W g (mendL g0) → Calls Tryd.prog 66 #[.slice (some ⟨g, 0, none⟩) n c', .pointer (some ⟨P1, 0, none⟩)] W fun e w' => e = .returned (.tuple #[]) ∧ MC w' g l2 ∧ KG g W w'
set_option maxRecDepth 100000 in
set_option maxHeartbeats 4000000 in
theorem atClose_in (A : Option Addr) (l l2 : List CC) (n c x P1 : Nat) (hn : n = l.length) (hl : n ≤ 1000) (hx : x < n) (hl2 : l2.length = n) (w : World) (h : RC w w.heap.size A l) (hd : CloseDoes w l l2 n P1) :
    Calls Tryd.prog 48 #[.slice A n c, .int .i64 x, .func (.func 66) #[] #[.pointer (some ⟨P1, 0, none⟩)]] w fun e w' => ∃ v, e = .returned v ∧ OC w.heap.size w' v (mendL l2) ∧ Below w.heap.size w w' := by
  have HM := Lib.hid (mend_any A l n c hn hl w h)
  have hlen : (mendL l).length = n := by rw [mendL_len, hn]
  have HF : Hid (∀ W v, OC w.heap.size W v (mendL l) → ∃ g c', v = .slice (some ⟨g, 0, none⟩) n c' ∧ w.heap.size ≤ g ∧ n ≤ c' ∧ MC W g (mendL l)) := Lib.hid fun W v ho => by
    obtain ⟨g, c', e, h1, h2, h3⟩ := ho.some (by omega)
    exact ⟨g, c', by rw [e, hlen], h1, by omega, h3⟩
  have HD := Lib.hid hd
  unfold CloseDoes at HD
  have HE : Hid (∀ W g c', n ≤ c' → MC W g l2 → Calls Tryd.prog 30 #[.slice (some ⟨g, 0, none⟩) n c'] W fun e w' => e = .returned (.tuple #[]) ∧ MC w' g (mendL l2) ∧ KG g W w') := Lib.hid fun W g c' hc hm => mendc_any g n c' _ hl2.symm (by omega) hc W hm
  have HL3 : Hid ((mendL l2).length = n) := Lib.hid (by rw [mendL_len, hl2])
  have hd1 : decide ((0 : Int) ≤ x) = true := decide_eq_true (by omega)
  have hd2 : decide ((x : Int) < n) = true := decide_eq_true (by omega)
  have hd3 : decide (x < n) = true := decide_eq_true hx
  clear h hd hlen hl2 hn
  generalize mendL l2 = l3 at *
  generalize mendL l = l1 at *
  go_enter Tryd.func48, Tryd.ntmps48
  go_wp2_with (first
    | (go_at_call 12; (with_reducible refine (HM.out).mono ?_); rintro e w1 ⟨v, rfl, ho, hb⟩; obtain ⟨g, c', rfl, hg, hc', hm⟩ := HF.out _ _ ho; have HB1 := Lib.hid hb; have HM1 := Lib.hid hm; clear ho hb hm)
    | (go_at_call 66; (with_reducible refine (HD.out _ _ _ HB1.out hc' HM1.out).mono ?_); rintro e w2 ⟨rfl, hm2, hk2⟩; have HM2 := Lib.hid hm2; have HK2 := Lib.hid hk2; clear hm2 hk2)
    | (go_at_call 30; (with_reducible refine (HE.out _ _ _ hc' HM2.out).mono ?_); rintro e w3 ⟨rfl, hm3, hk3⟩; have HM3 := Lib.hid hm3; have HK3 := Lib.hid (Below.ofKG HB1.out (HK2.out.trans hk3) hg (HB1.out).size); clear hm3 hk3))
  go_ret
  exact ⟨.slice (some ⟨g, 0, none⟩) n c', rfl, .inr ⟨g, c', by rw [HL3.out], hg, by rw [HL3.out]; exact hc', HM3.out⟩, HK3.out⟩
def InsertDoes (w : World) (g0 : List CC) (l2 : List CC) (n P1 P2 P3 : Nat) : Prop :=
  ∀ W g c', Below w.heap.size w W → n ≤ c' → MC W g (mendL g0) → Calls Tryd.prog 64 #[.slice (some ⟨g, 0, none⟩) n c', .pointer (some ⟨P1, 0, none⟩), .pointer (some ⟨P2, 0, none⟩), .pointer (some ⟨P3, 0, none⟩)] W fun e w' => e = .returned (.tuple #[]) ∧ MC w' g l2 ∧ KG g W w'
set_option maxRecDepth 100000 in
set_option maxHeartbeats 4000000 in
theorem atInsert_in (A : Option Addr) (l l2 : List CC) (n c x P1 P2 P3 : Nat) (hn : n = l.length) (hl : n ≤ 1000) (hx : x < n) (hl2 : l2.length = n) (w : World) (h : RC w w.heap.size A l) (hd : InsertDoes w l l2 n P1 P2 P3) :
    Calls Tryd.prog 48 #[.slice A n c, .int .i64 x, .func (.func 64) #[] #[.pointer (some ⟨P1, 0, none⟩), .pointer (some ⟨P2, 0, none⟩), .pointer (some ⟨P3, 0, none⟩)]] w fun e w' => ∃ v, e = .returned v ∧ OC w.heap.size w' v (mendL l2) ∧ Below w.heap.size w w' := by
  have HM := Lib.hid (mend_any A l n c hn hl w h)
  have hlen : (mendL l).length = n := by rw [mendL_len, hn]
  have HF : Hid (∀ W v, OC w.heap.size W v (mendL l) → ∃ g c', v = .slice (some ⟨g, 0, none⟩) n c' ∧ w.heap.size ≤ g ∧ n ≤ c' ∧ MC W g (mendL l)) := Lib.hid fun W v ho => by
    obtain ⟨g, c', e, h1, h2, h3⟩ := ho.some (by omega)
    exact ⟨g, c', by rw [e, hlen], h1, by omega, h3⟩
  have HD := Lib.hid hd
  unfold InsertDoes at HD
  have HE : Hid (∀ W g c', n ≤ c' → MC W g l2 → Calls Tryd.prog 30 #[.slice (some ⟨g, 0, none⟩) n c'] W fun e w' => e = .returned (.tuple #[]) ∧ MC w' g (mendL l2) ∧ KG g W w') := Lib.hid fun W g c' hc hm => mendc_any g n c' _ hl2.symm (by omega) hc W hm
  have HL3 : Hid ((mendL l2).length = n) := Lib.hid (by rw [mendL_len, hl2])
  have hd1 : decide ((0 : Int) ≤ x) = true := decide_eq_true (by omega)
  have hd2 : decide ((x : Int) < n) = true := decide_eq_true (by omega)
  have hd3 : decide (x < n) = true := decide_eq_true hx
  clear h hd hlen hl2 hn
  generalize mendL l2 = l3 at *
  generalize mendL l = l1 at *
  go_enter Tryd.func48, Tryd.ntmps48
  go_wp2_with (first
    | (go_at_call 12; (with_reducible refine (HM.out).mono ?_); rintro e w1 ⟨v, rfl, ho, hb⟩; obtain ⟨g, c', rfl, hg, hc', hm⟩ := HF.out _ _ ho; have HB1 := Lib.hid hb; have HM1 := Lib.hid hm; clear ho hb hm)
    | (go_at_call 64; (with_reducible refine (HD.out _ _ _ HB1.out hc' HM1.out).mono ?_); rintro e w2 ⟨rfl, hm2, hk2⟩; have HM2 := Lib.hid hm2; have HK2 := Lib.hid hk2; clear hm2 hk2)
    | (go_at_call 30; (with_reducible refine (HE.out _ _ _ hc' HM2.out).mono ?_); rintro e w3 ⟨rfl, hm3, hk3⟩; have HM3 := Lib.hid hm3; have HK3 := Lib.hid (Below.ofKG HB1.out (HK2.out.trans hk3) hg (HB1.out).size); clear hm3 hk3))
  go_ret
  exact ⟨.slice (some ⟨g, 0, none⟩) n c', rfl, .inr ⟨g, c', by rw [HL3.out], hg, by rw [HL3.out]; exact hc', HM3.out⟩, HK3.out⟩
def DeleteDoes (w : World) (g0 : List CC) (l2 : List CC) (n P1 P2 P3 : Nat) : Prop :=
  ∀ W g c', Below w.heap.size w W → n ≤ c' → MC W g (mendL g0) → Calls Tryd.prog 65 #[.slice (some ⟨g, 0, none⟩) n c', .pointer (some ⟨P1, 0, none⟩), .pointer (some ⟨P2, 0, none⟩), .pointer (some ⟨P3, 0, none⟩)] W fun e w' => e = .returned (.tuple #[]) ∧ MC w' g l2 ∧ KG g W w'
set_option maxRecDepth 100000 in
set_option maxHeartbeats 4000000 in
theorem atDelete_in (A : Option Addr) (l l2 : List CC) (n c x P1 P2 P3 : Nat) (hn : n = l.length) (hl : n ≤ 1000) (hx : x < n) (hl2 : l2.length = n) (w : World) (h : RC w w.heap.size A l) (hd : DeleteDoes w l l2 n P1 P2 P3) :
    Calls Tryd.prog 48 #[.slice A n c, .int .i64 x, .func (.func 65) #[] #[.pointer (some ⟨P1, 0, none⟩), .pointer (some ⟨P2, 0, none⟩), .pointer (some ⟨P3, 0, none⟩)]] w fun e w' => ∃ v, e = .returned v ∧ OC w.heap.size w' v (mendL l2) ∧ Below w.heap.size w w' := by
  have HM := Lib.hid (mend_any A l n c hn hl w h)
  have hlen : (mendL l).length = n := by rw [mendL_len, hn]
  have HF : Hid (∀ W v, OC w.heap.size W v (mendL l) → ∃ g c', v = .slice (some ⟨g, 0, none⟩) n c' ∧ w.heap.size ≤ g ∧ n ≤ c' ∧ MC W g (mendL l)) := Lib.hid fun W v ho => by
    obtain ⟨g, c', e, h1, h2, h3⟩ := ho.some (by omega)
    exact ⟨g, c', by rw [e, hlen], h1, by omega, h3⟩
  have HD := Lib.hid hd
  unfold DeleteDoes at HD
  have HE : Hid (∀ W g c', n ≤ c' → MC W g l2 → Calls Tryd.prog 30 #[.slice (some ⟨g, 0, none⟩) n c'] W fun e w' => e = .returned (.tuple #[]) ∧ MC w' g (mendL l2) ∧ KG g W w') := Lib.hid fun W g c' hc hm => mendc_any g n c' _ hl2.symm (by omega) hc W hm
  have HL3 : Hid ((mendL l2).length = n) := Lib.hid (by rw [mendL_len, hl2])
  have hd1 : decide ((0 : Int) ≤ x) = true := decide_eq_true (by omega)
  have hd2 : decide ((x : Int) < n) = true := decide_eq_true (by omega)
  have hd3 : decide (x < n) = true := decide_eq_true hx
  clear h hd hlen hl2 hn
  generalize mendL l2 = l3 at *
  generalize mendL l = l1 at *
  go_enter Tryd.func48, Tryd.ntmps48
  go_wp2_with (first
    | (go_at_call 12; (with_reducible refine (HM.out).mono ?_); rintro e w1 ⟨v, rfl, ho, hb⟩; obtain ⟨g, c', rfl, hg, hc', hm⟩ := HF.out _ _ ho; have HB1 := Lib.hid hb; have HM1 := Lib.hid hm; clear ho hb hm)
    | (go_at_call 65; (with_reducible refine (HD.out _ _ _ HB1.out hc' HM1.out).mono ?_); rintro e w2 ⟨rfl, hm2, hk2⟩; have HM2 := Lib.hid hm2; have HK2 := Lib.hid hk2; clear hm2 hk2)
    | (go_at_call 30; (with_reducible refine (HE.out _ _ _ hc' HM2.out).mono ?_); rintro e w3 ⟨rfl, hm3, hk3⟩; have HM3 := Lib.hid hm3; have HK3 := Lib.hid (Below.ofKG HB1.out (HK2.out.trans hk3) hg (HB1.out).size); clear hm3 hk3))
  go_ret
  exact ⟨.slice (some ⟨g, 0, none⟩) n c', rfl, .inr ⟨g, c', by rw [HL3.out], hg, by rw [HL3.out]; exact hc', HM3.out⟩, HK3.out⟩
/-- What Close makes of a row. -/
def closeRow (l : List CC) : List CC := if 0 < l.length then mendL ((mendL l).set (l.length - 1) padC) else mendL l
set_option maxRecDepth 100000 in
set_option maxHeartbeats 4000000 in
theorem close_any (A : Option Addr) (l : List CC) (n c : Nat) (hn : n = l.length) (hl : n ≤ 1000) (w : World) (h : RC w w.heap.size A l) :
    Calls Tryd.prog 39 #[.slice A n c] w fun e w' => ∃ v, e = .returned v ∧ OC w.heap.size w' v (closeRow l) ∧ Below w.heap.size w w' := by
  have hb := belA (Below.refl w.heap.size w) (.cells #[.int .i64 ((n : Int) - 1)] 3)
  have hx1 := heap_alloc_new w (.cells #[.int .i64 ((n : Int) - 1)] 3)
  have HAT : Hid (Calls Tryd.prog 48 #[.slice A n c, .int .i64 ((n : Int) - 1), .func (.func 66) #[] #[.pointer (some ⟨w.heap.size, 0, none⟩)]] (w.alloc (.cells #[.int .i64 ((n : Int) - 1)] 3)) fun e w' => ∃ v, e = .returned v ∧ OC w.heap.size w' v (closeRow l) ∧ Below w.heap.size w w') := Lib.hid (by
    unfold closeRow
    by_cases h0 : 0 < l.length
    · rw [if_pos h0]
      obtain ⟨x, hx⟩ : ∃ x : Nat, l.length = x + 1 := ⟨l.length - 1, by omega⟩
      have e1 : ((n : Int) - 1) = (x : Int) := by omega
      rw [e1] at hx1 ⊢
      rw [e1] at hb
      rw [hx, Nat.add_sub_cancel]
      refine (atClose_in A l ((mendL l).set x padC) n c x w.heap.size hn hl (by omega) (by simp [mendL_len, hn]) _ (h.past hb) fun W g c' hW _ hm => closeFn_any g n c' x w.heap.size _ (by rw [mendL_len, hn]) (by omega) W hm ((hW.block _ (by simp)).trans hx1)).mono fun e w' ⟨v, he, ho, hb'⟩ => ⟨v, he, ho.lower hb.size, bel0 hb hb'⟩
    · rw [if_neg h0]
      exact (atClose_out A l n c _ _ hn hl (by omega) _ (h.past hb)).mono fun e w' ⟨v, he, ho, hb'⟩ => ⟨v, he, ho.lower hb.size, bel0 hb hb'⟩)
  have hw : IntKind.i64.wrap ((n : Int) - 1) = (n : Int) - 1 := by rw [IntKind.wrap_i64]; omega
  clear h hn hl hb hx1
  generalize closeRow l = L at *
  go_enter Tryd.func39, Tryd.ntmps39
  go_wp2_with (go_at_call 48; (with_reducible refine (HAT.out).mono ?_); rintro e w1 ⟨v, rfl, ho, hb⟩; have HO1 := Lib.hid ho; have HB1 := Lib.hid hb; clear ho hb)
  go_ret
  exact ⟨_, rfl, HO1.out, HB1.out⟩
end Go.Proofs.YtoiekhjmfoodiaaDoor
