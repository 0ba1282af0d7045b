/- The walk of Insert. -/
import Derived.Test.YtoiekhjmfoodiaaDoorYf
namespace Go.Proofs.YtoiekhjmfoodiaaDoor
open Go.RowKit

/-- What Insert makes of a row. -/
def insRow (l : List CC) (z N : Int) (b : CC) : List CC :=
  if 0 ≤ z ∧ z < (l.length : Int) then mendL (blankK (movL (mendL l) (z.toNat + (max (min N ((l.length - z.toNat : Nat) : Int)) 0).toNat) z.toNat (l.length - z.toNat - (max (min N ((l.length - z.toNat : Nat) : Int)) 0).toNat)) z.toNat b (max (min N ((l.length - z.toNat : Nat) : Int)) 0).toNat) else mendL l
set_option maxRecDepth 100000 in
set_option maxHeartbeats 4000000 in
theorem insert_any (A : Option Addr) (l : List CC) (n c : Nat) (z N bk bn : Int) (hn : n = l.length) (hl : n ≤ 1000) (w : World) (h : RC w w.heap.size A l) :
    Calls Tryd.prog 37 #[.slice A n c, .int .i64 z, .int .i64 N, .agg #[.int .i64 bk, .int .i64 bn]] w fun e w' => ∃ v, e = .returned v ∧ OC w.heap.size w' v (insRow l z N (blankC bk bn)) ∧ Below w.heap.size w w' := by
  have hb : Below w.heap.size w (((w.alloc (.cells #[.int .i64 z] 3)).alloc (.cells #[.int .i64 N] 3)).alloc (.cells #[.int .i64 bk, .int .i64 bn] 32)) := belA (belA (belA (Below.refl _ _) _) _) _
  have s0 : (w.alloc (.cells #[.int .i64 z] 3)).heap.size = w.heap.size + 1 := by simp
  have s1 : ((w.alloc (.cells #[.int .i64 z] 3)).alloc (.cells #[.int .i64 N] 3)).heap.size = w.heap.size + 2 := by simp
  have hA := belA (belA (Below.refl (w.alloc (.cells #[.int .i64 z] 3)).heap.size _) (.cells #[.int .i64 N] 3)) (.cells #[.int .i64 bk, .int .i64 bn] 32)
  have hA2 := belA (Below.refl ((w.alloc (.cells #[.int .i64 z] 3)).alloc (.cells #[.int .i64 N] 3)).heap.size _) (.cells #[.int .i64 bk, .int .i64 bn] 32)
  have b1 := (hA.block w.heap.size (by omega)).trans (heap_alloc_new w (.cells #[.int .i64 z] 3))
  have n2 := heap_alloc_new (w.alloc (.cells #[.int .i64 z] 3)) (.cells #[.int .i64 N] 3)
  rw [s0] at n2
  have b2 := (hA2.block (w.heap.size + 1) (by omega)).trans n2
  have b3 := heap_alloc_new ((w.alloc (.cells #[.int .i64 z] 3)).alloc (.cells #[.int .i64 N] 3)) (.cells #[.int .i64 bk, .int .i64 bn] 32)
  rw [s1] at b3
  have HAT : Hid (Calls Tryd.prog 48 #[.slice A n c, .int .i64 z, .func (.func 64) #[] #[.pointer (some ⟨w.heap.size, 0, none⟩), .pointer (some ⟨w.heap.size + 1, 0, none⟩), .pointer (some ⟨w.heap.size + 2, 0, none⟩)]] (((w.alloc (.cells #[.int .i64 z] 3)).alloc (.cells #[.int .i64 N] 3)).alloc (.cells #[.int .i64 bk, .int .i64 bn] 32)) fun e w' => ∃ v, e = .returned v ∧ OC w.heap.size w' v (insRow l z N (blankC bk bn)) ∧ Below w.heap.size w w') := Lib.hid (by
    unfold insRow
    by_cases hz : 0 ≤ z ∧ z < (l.length : Int)
    · rw [if_pos hz]
      obtain ⟨x, hx⟩ : ∃ x : Nat, z = x := ⟨z.toNat, by omega⟩
      subst hx
      rw [Int.toNat_natCast]
      have hxl : x < l.length := by omega
      obtain ⟨k, hk⟩ : ∃ k : Nat, max (min N ((l.length - x : Nat) : Int)) 0 = (k : Int) := ⟨(max (min N ((l.length - x : Nat) : Int)) 0).toNat, by omega⟩
      rw [hk, Int.toNat_natCast]
      have hkn : k ≤ l.length - x := by omega
      refine (atInsert_in A l _ n c x _ _ _ hn hl (by omega) (by rw [blankK_len, movL_len _ _ _ _ (by rw [mendL_len]; omega) (by rw [mendL_len]; omega), mendL_len, hn]) _ (h.past hb) fun W g c' hW hc' hm => ?_).mono fun e w' ⟨v, he, ho, hb'⟩ => ⟨v, he, ho.lower hb.size, bel0 hb hb'⟩
      have q1 := (hW.block _ (Array.getElem?_eq_some_iff.1 b1).1).trans b1
      have q2 := (hW.block _ (Array.getElem?_eq_some_iff.1 b2).1).trans b2
      have q3 := (hW.block _ (Array.getElem?_eq_some_iff.1 b3).1).trans b3
      subst hn
      exact insFn_any g l.length c' x k _ _ _ N (mendL l) bk bn (by rw [mendL_len]) hl hc' hxl hkn hk W hm q1 q2 q3
    · rw [if_neg hz]
      exact (atInsert_out A l n c z _ hn hl (by omega) _ (h.past hb)).mono fun e w' ⟨v, he, ho, hb'⟩ => ⟨v, he, ho.lower hb.size, bel0 hb hb'⟩)
  clear h hn hl hb s0 s1 hA hA2 b1 n2 b2 b3
  generalize insRow l z N (blankC bk bn) = L at *
  go_enter Tryd.func37, Tryd.ntmps37
  go_wp2_with (go_at_call 48; (with_reducible refine (HAT.out).mono ?_); rintro e w1 ⟨v, rfl, ho, hb⟩; have HO1 := Lib.hid ho; have HB1 := Lib.hid hb; clear ho hb)
  go_ret
  exact ⟨_, rfl, HO1.out, HB1.out⟩
end Go.Proofs.YtoiekhjmfoodiaaDoor
