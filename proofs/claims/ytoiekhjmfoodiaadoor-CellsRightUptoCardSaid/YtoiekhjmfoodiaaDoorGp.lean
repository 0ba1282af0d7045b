/- The walk of Erase. -/
import Derived.Test.YtoiekhjmfoodiaaDoorGo
namespace Go.Proofs.YtoiekhjmfoodiaaDoor
open Go.RowKit

set_option maxRecDepth 100000 in
set_option maxHeartbeats 4000000 in
theorem atErase_out (A : Option Addr) (l : List CC) (n c f : Nat) (caps : Array Value) (hn : n = l.length) (hl : n ≤ 1000) (hf : n ≤ f) (w : World) (h : RC w w.heap.size A l) :
    Calls Tryd.prog 48 #[.slice A n c, .int .i64 f, .func (.func 51) #[] caps] w fun e w' => ∃ v, e = .returned v ∧ OC w.heap.size w' v (mendL l) ∧ Below w.heap.size w w' := by
  have HM := Lib.hid (mend_any A l n c hn hl w h)
  have hlen : (mendL l).length = n := by rw [mendL_len, hn]
  have HF : Hid (∀ W v, OC w.heap.size W v (mendL l) → ∃ A' c', v = .slice A' n c') := Lib.hid fun W v ho => by
    obtain ⟨A', c', e, _⟩ := ho.form
    exact ⟨A', c', by rw [e, hlen]⟩
  have hd1 : decide ((0 : Int) ≤ f) = true := decide_eq_true (by omega)
  have hd2 : decide ((f : Int) < n) = false := decide_eq_false (by omega)
  have hd3 : decide (f < n) = false := decide_eq_false (by omega)
  clear h hlen hn
  generalize mendL l = l1 at *
  go_enter Tryd.func48, Tryd.ntmps48
  go_wp2_with (go_at_call 12; (with_reducible refine (HM.out).mono ?_); rintro e w1 ⟨v, rfl, ho, hb⟩; obtain ⟨A', c', rfl⟩ := HF.out _ _ ho; have HB1 := Lib.hid hb; have HO1 := Lib.hid ho; clear ho hb)
  go_ret
  exact ⟨_, rfl, HO1.out, HB1.out⟩
/-- What Erase makes of a row. -/
def eraseL (l : List CC) (f t : Nat) (x : CC) : List CC := if f < l.length then mendL (blankK (mendL l) f x (t - f)) else mendL l
theorem OC.lower {B B' : Nat} {w : World} {v : Value} {l : List CC} (h : OC B w v l) (hb : B' ≤ B) : OC B' w v l := by
  rcases h with h | ⟨g, c, h1, h2, h3, h4⟩
  · exact .inl h
  · exact .inr ⟨g, c, h1, by omega, h3, h4⟩
set_option maxRecDepth 100000 in
set_option maxHeartbeats 4000000 in
theorem erase_any (A : Option Addr) (l : List CC) (n c f t : Nat) (z1 z2 bk bn : Int) (hn : n = l.length) (hl : n ≤ 1000) (hf : max z1 0 = (f : Int)) (ht : max (min z2 n) (max z1 0) = (t : Int)) (w : World) (h : RC w w.heap.size A l) :
    Calls Tryd.prog 23 #[.slice A n c, .int .i64 z1, .int .i64 z2, .agg #[.int .i64 bk, .int .i64 bn]] w fun e w' => ∃ v, e = .returned v ∧ OC w.heap.size w' v (eraseL l f t (blankC bk bn)) ∧ Below w.heap.size w w' := by
  have HAT : Hid (∀ fz tz : Int, fz = f → tz = t → Calls Tryd.prog 48 #[.slice A n c, .int .i64 fz, .func (.func 51) #[] #[.pointer (some ⟨w.heap.size, 0, none⟩), .pointer (some ⟨w.heap.size + 1, 0, none⟩), .pointer (some ⟨w.heap.size + 2, 0, none⟩)]] (((w.alloc (.cells #[.int .i64 fz] 3)).alloc (.cells #[.int .i64 tz] 3)).alloc (.cells #[.int .i64 bk, .int .i64 bn] 32)) fun e w' => ∃ v, e = .returned v ∧ OC w.heap.size w' v (eraseL l f t (blankC bk bn)) ∧ Below w.heap.size w w') := Lib.hid fun fz tz e1 e2 => by
    subst e1; subst e2
    have hb : Below w.heap.size w (((w.alloc (.cells #[.int .i64 f] 3)).alloc (.cells #[.int .i64 t] 3)).alloc (.cells #[.int .i64 bk, .int .i64 bn] 32)) := belA (belA (belA (Below.refl _ _) _) _) _
    have s0 : (w.alloc (.cells #[.int .i64 f] 3)).heap.size = w.heap.size + 1 := by simp
    have s1 : ((w.alloc (.cells #[.int .i64 f] 3)).alloc (.cells #[.int .i64 t] 3)).heap.size = w.heap.size + 2 := by simp
    have hA := belA (belA (Below.refl (w.alloc (.cells #[.int .i64 f] 3)).heap.size _) (.cells #[.int .i64 t] 3)) (.cells #[.int .i64 bk, .int .i64 bn] 32)
    have hA2 := belA (Below.refl ((w.alloc (.cells #[.int .i64 f] 3)).alloc (.cells #[.int .i64 t] 3)).heap.size _) (.cells #[.int .i64 bk, .int .i64 bn] 32)
    have b1 := (hA.block w.heap.size (by omega)).trans (heap_alloc_new w (.cells #[.int .i64 f] 3))
    have n2 := heap_alloc_new (w.alloc (.cells #[.int .i64 f] 3)) (.cells #[.int .i64 t] 3)
    rw [s0] at n2
    have b2 := (hA2.block (w.heap.size + 1) (by omega)).trans n2
    have b3 := heap_alloc_new ((w.alloc (.cells #[.int .i64 f] 3)).alloc (.cells #[.int .i64 t] 3)) (.cells #[.int .i64 bk, .int .i64 bn] 32)
    rw [s1] at b3
    unfold eraseL
    by_cases hlt : f < l.length
    · rw [if_pos hlt]
      refine (atErase_in A l n c f t _ _ _ bk bn hn hl (by omega) (by omega) (by omega) _ (h.past hb) b1 b2 b3).mono fun e w' ⟨v, he, ho, hb'⟩ => ⟨v, he, ho.lower hb.size, bel0 hb hb'⟩
    · rw [if_neg hlt]
      refine (atErase_out A l n c f _ hn hl (by omega) _ (h.past hb)).mono fun e w' ⟨v, he, ho, hb'⟩ => ⟨v, he, ho.lower hb.size, bel0 hb hb'⟩
  clear h hn
  generalize eraseL l f t (blankC bk bn) = L at *
  go_enter Tryd.func23, Tryd.ntmps23
  go_wp2_with (go_at_call 48; (with_reducible refine (HAT.out _ _ ?_ ?_).mono ?_); (omega); (omega); rintro e w1 ⟨v, rfl, ho, hb⟩; have HO1 := Lib.hid ho; have HB1 := Lib.hid hb; clear ho hb)
  all_goals
    go_ret
    exact ⟨_, rfl, HO1.out, HB1.out⟩
end Go.Proofs.YtoiekhjmfoodiaaDoor
