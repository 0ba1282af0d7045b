/- Erase's closure, and at with it. -/
import Derived.Test.YtoiekhjmfoodiaaDoorGn
import Derived.StillTailTactics
namespace Go.Proofs.YtoiekhjmfoodiaaDoor
open Go.RowKit

theorem KG.trans {g : Nat} {w w1 w2 : World} (h : KG g w w1) (k : KG g w1 w2) : KG g w w2 :=
  ⟨k.os.trans h.os, k.tape.trans h.tape, k.output.trans h.output, Nat.le_trans h.size k.size, fun i hi hne => (k.block i (Nat.lt_of_lt_of_le hi h.size) hne).trans (h.block i hi hne)⟩
set_option maxRecDepth 100000 in
set_option maxHeartbeats 4000000 in
theorem eraseFn_any (g n c f t P1 P2 P3 : Nat) (M : List CC) (bk bn : Int) (hn : n = M.length) (hl : n ≤ 1000) (hcap : n ≤ c) (hf : f < n) (hft : f ≤ t) (ht : t ≤ n) (w : World) (h : MC w g M) (h1 : w.heap[P1]? = some (.cells #[.int .i64 f] 3 (0, 0))) (h2 : w.heap[P2]? = some (.cells #[.int .i64 t] 3 (0, 0))) (h3 : w.heap[P3]? = some (.cells #[.int .i64 bk, .int .i64 bn] 32 (0, 0))) :
    Calls Tryd.prog 51 #[.slice (some ⟨g, 0, none⟩) n c, .pointer (some ⟨P1, 0, none⟩), .pointer (some ⟨P2, 0, none⟩), .pointer (some ⟨P3, 0, none⟩)] w fun e w' => e = .returned (.tuple #[]) ∧ MC w' g (blankK M f (blankC bk bn) (t - f)) ∧ KG g w w' := by
  have HBL : Hid (∀ W c', Below w.heap.size w W → Calls Tryd.prog 35 #[.slice (some ⟨g, f * 8, none⟩) (t - f) c', .agg #[.int .i64 bk, .int .i64 bn]] W fun e w' => e = .returned (.tuple #[]) ∧ MC w' g (blankK M f (blankC bk bn) (t - f)) ∧ KG g W w') := Lib.hid fun W c' hW => blank_any g f (t - f) c' M bk bn (by omega) (by omega) W (h.past hW)
  have c1 := cell_of_row _ _ 0 _ _ _ h1
  have c2 := cell_of_row _ _ 0 _ _ _ h2
  have c3 := cell_of_row _ _ 0 _ _ _ h3
  have c4 := cell_of_row _ _ 1 _ _ _ h3
  have i1 : (f : Int) ≤ t := by omega
  have i2 : (t : Int) ≤ c := by omega
  have i3 : (f : Int) < c := by omega
  have i4 : f < c := by omega
  have i5 : t ≤ c := by omega
  generalize blankK M f (blankC bk bn) (t - f) = M2 at *
  clear h h1 h2 h3 hn hf ht hcap
  go_enter Tryd.func51, Tryd.ntmps51
  go_still_tail 5, (by kernel_rfl)
  change wpList _ _ _ _ _ w.drew
  have HB : Hid (Below w.heap.size w w.drew) := Lib.hid (Below.refl w.heap.size w).drew
  clear c1 c2 c3 c4
  generalize w.drew = wd at *
  go_wp2_with (go_at_call 35; (with_reducible refine (HBL.out _ _ HB.out).mono ?_); rintro e w1 ⟨rfl, hm, hk⟩; have HM := Lib.hid hm; have HK := Lib.hid (((KG.refl g w).past HB.out).trans hk); clear hm hk)
  go_end0
  exact ⟨rfl, HM.out, HK.out⟩
theorem OC.some {B : Nat} {w : World} {v : Value} {l : List CC} (h : OC B w v l) (hne : 0 < l.length) : ∃ g c, v = .slice (some ⟨g, 0, none⟩) l.length c ∧ B ≤ g ∧ l.length ≤ c ∧ MC w g l := by
  rcases h with ⟨rfl, _⟩ | h
  · simp at hne
  · exact h
set_option maxRecDepth 100000 in
set_option maxHeartbeats 4000000 in
theorem atErase_in (A : Option Addr) (l : List CC) (n c f t P1 P2 P3 : Nat) (bk bn : Int) (hn : n = l.length) (hl : n ≤ 1000) (hf : f < n) (hft : f ≤ t) (ht : t ≤ n) (w : World) (h : RC w w.heap.size A l) (h1 : w.heap[P1]? = some (.cells #[.int .i64 f] 3 (0, 0))) (h2 : w.heap[P2]? = some (.cells #[.int .i64 t] 3 (0, 0))) (h3 : w.heap[P3]? = some (.cells #[.int .i64 bk, .int .i64 bn] 32 (0, 0))) :
    Calls Tryd.prog 48 #[.slice A n c, .int .i64 f, .func (.func 51) #[] #[.pointer (some ⟨P1, 0, none⟩), .pointer (some ⟨P2, 0, none⟩), .pointer (some ⟨P3, 0, none⟩)]] w fun e w' => ∃ v, e = .returned v ∧ OC w.heap.size w' v (mendL (blankK (mendL l) f (blankC bk bn) (t - f))) ∧ Below w.heap.size w w' := by
  have HM := Lib.hid (mend_any A l n c hn hl w h)
  have hlen : (mendL l).length = n := by rw [mendL_len, hn]
  have q1 := (Array.getElem?_eq_some_iff.1 h1).1
  have q2 := (Array.getElem?_eq_some_iff.1 h2).1
  have q3 := (Array.getElem?_eq_some_iff.1 h3).1
  have HF : Hid (∀ W v, OC w.heap.size W v (mendL l) → ∃ g c', v = .slice (some ⟨g, 0, none⟩) n c' ∧ w.heap.size ≤ g ∧ n ≤ c' ∧ MC W g (mendL l)) := Lib.hid fun W v ho => by
    obtain ⟨g, c', e, h1, h2, h3⟩ := ho.some (by omega)
    exact ⟨g, c', by rw [e, hlen], h1, by omega, h3⟩
  have HD : Hid (∀ W g c', Below w.heap.size w W → n ≤ c' → MC W g (mendL l) → Calls Tryd.prog 51 #[.slice (some ⟨g, 0, none⟩) n c', .pointer (some ⟨P1, 0, none⟩), .pointer (some ⟨P2, 0, none⟩), .pointer (some ⟨P3, 0, none⟩)] W fun e w' => e = .returned (.tuple #[]) ∧ MC w' g (blankK (mendL l) f (blankC bk bn) (t - f)) ∧ KG g W w') := Lib.hid fun W g c' hW hc hm => eraseFn_any g n c' f t P1 P2 P3 (mendL l) bk bn hlen.symm hl hc hf hft ht W hm ((hW.block _ q1).trans h1) ((hW.block _ q2).trans h2) ((hW.block _ q3).trans h3)
  have hlen2 : (blankK (mendL l) f (blankC bk bn) (t - f)).length = n := by rw [blankK_len, hlen]
  have HE : Hid (∀ W g c', n ≤ c' → MC W g (blankK (mendL l) f (blankC bk bn) (t - f)) → Calls Tryd.prog 30 #[.slice (some ⟨g, 0, none⟩) n c'] W fun e w' => e = .returned (.tuple #[]) ∧ MC w' g (mendL (blankK (mendL l) f (blankC bk bn) (t - f))) ∧ KG g W w') := Lib.hid fun W g c' hc hm => mendc_any g n c' _ hlen2.symm (by omega) hc W hm
  have HL3 : Hid ((mendL (blankK (mendL l) f (blankC bk bn) (t - f))).length = n) := Lib.hid (by rw [mendL_len, hlen2])
  have hd1 : decide ((0 : Int) ≤ f) = true := decide_eq_true (by omega)
  have hd2 : decide ((f : Int) < n) = true := decide_eq_true (by omega)
  have hd3 : decide (f < n) = true := decide_eq_true hf
  clear h h1 h2 h3 q1 q2 q3 hlen hlen2 hn ht hft
  generalize mendL (blankK (mendL l) f (blankC bk bn) (t - f)) = l3 at *
  generalize blankK (mendL l) f (blankC bk bn) (t - f) = l2 at *
  generalize mendL l = l1 at *
  go_enter Tryd.func48, Tryd.ntmps48
  go_wp2_with (first
    | (go_at_call 12; (with_reducible refine (HM.out).mono ?_); rintro e w1 ⟨v, rfl, ho, hb⟩; obtain ⟨g, c', rfl, hg, hc', hm⟩ := HF.out _ _ ho; have HB1 := Lib.hid hb; have HM1 := Lib.hid hm; clear ho hb hm)
    | (go_at_call 51; (with_reducible refine (HD.out _ _ _ HB1.out hc' HM1.out).mono ?_); rintro e w2 ⟨rfl, hm2, hk2⟩; have HM2 := Lib.hid hm2; have HK2 := Lib.hid hk2; clear hm2 hk2)
    | (go_at_call 30; (with_reducible refine (HE.out _ _ _ hc' HM2.out).mono ?_); rintro e w3 ⟨rfl, hm3, hk3⟩; have HM3 := Lib.hid hm3; have HK3 := Lib.hid (Below.ofKG HB1.out (HK2.out.trans hk3) hg (HB1.out).size); clear hm3 hk3))
  go_ret
  exact ⟨.slice (some ⟨g, 0, none⟩) n c', rfl, .inr ⟨g, c', by rw [HL3.out], hg, by rw [HL3.out]; exact hc', HM3.out⟩, HK3.out⟩
end Go.Proofs.YtoiekhjmfoodiaaDoor
