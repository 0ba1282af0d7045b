/- Rows of cells, plain: what Insert and Delete make, cell by cell; rows that grow cell by cell. -/
import Derived.Test.YtoiekhjmfoodiaaDoorHe
import Derived.Test.YtoiekhjmfoodiaaDoorHf
import Derived.Test.YtoiekhjmfoodiaaDoorHg
import Derived.Test.YtoiekhjmfoodiaaDoorGm
namespace Go.Proofs.YtoiekhjmfoodiaaDoor
open Go.RowKit

theorem ext_Ac {L L' : List CC} (hl : L.length = L'.length) (h : ∀ i, i < L.length → Ac L i = Ac L' i) : L = L' := by
  apply List.ext_getElem hl
  intro i h1 h2
  have := h i h1
  unfold Ac at this
  rw [List.getElem?_eq_getElem h1, List.getElem?_eq_getElem h2] at this
  exact this
theorem Ac_map (n : Nat) (f : Nat → CC) (i : Nat) (h : i < n) : Ac ((List.range n).map f) i = f i := by
  unfold Ac
  rw [List.getElem?_map, List.getElem?_range h]
  rfl
theorem Ac_blankK (L : List CC) (s : Nat) (x : CC) (j k : Nat) (h : j < L.length) : Ac (blankK L s x k) j = if s ≤ j ∧ j < s + k then x else Ac L j := by
  unfold Ac
  rw [blankK_get]
  by_cases h1 : s ≤ j ∧ j < s + k
  · rw [if_pos ⟨h1.1, h1.2, h⟩, if_pos h1]; rfl
  · rw [if_neg (by omega), if_neg h1]
/-- What Insert makes of a mended row, ahead of the mending. -/
def insT (M : List CC) (z N : Int) (b : CC) : List CC :=
  if (0 ≤ z ∧ z < (M.length : Int)) ∧ 1 ≤ N then (List.range M.length).map fun (i : Nat) => if (i : Int) < z then Ac M i else if (i : Int) - z < N then b else Ac M (i - N.toNat) else M
theorem insT_len (M : List CC) (z N : Int) (b : CC) : (insT M z N b).length = M.length := by
  unfold insT
  split <;> simp
theorem ins_same (l : List CC) (z N : Int) (b : CC) : insRow l z N b = mendL (insT (mendL l) z N b) := by
  have hl := mendL_len l
  unfold insRow insT
  by_cases h : 0 ≤ z ∧ z < (l.length : Int)
  · rw [if_pos h]
    obtain ⟨x, rfl⟩ : ∃ x : Nat, z = x := ⟨z.toNat, by omega⟩
    rw [Int.toNat_natCast]
    obtain ⟨k, hk⟩ : ∃ k : Nat, max (min N ((l.length - x : Nat) : Int)) 0 = (k : Int) := ⟨(max (min N ((l.length - x : Nat) : Int)) 0).toNat, by omega⟩
    rw [hk, Int.toNat_natCast]
    congr 1
    have hmv : (movL (mendL l) (x + k) x (l.length - x - k)).length = l.length := by rw [movL_len _ _ _ _ (by omega) (by omega), hl]
    by_cases hN : 1 ≤ N
    · rw [if_pos ⟨by omega, hN⟩]
      refine ext_Ac (by rw [blankK_len, hmv]; simp [hl]) fun i hi => ?_
      have hi' : i < l.length := by rw [blankK_len, hmv] at hi; exact hi
      rw [Ac_blankK _ _ _ _ _ (by omega), Ac_map _ _ _ (by omega)]
      by_cases h1 : (i : Int) < (x : Int)
      · rw [if_neg (by omega), if_pos h1, movL_low _ _ _ _ _ (by omega) (by omega)]
      · rw [if_neg h1]
        by_cases h2 : (i : Int) - x < N
        · rw [if_pos h2, if_pos (by omega)]
        · rw [if_neg h2, if_neg (by omega)]
          obtain ⟨j, rfl⟩ : ∃ j, i = x + k + j := ⟨i - (x + k), by omega⟩
          rw [movL_in _ _ _ _ _ (by omega) (by omega) (by omega)]
          congr 1
          omega
    · rw [if_neg (by omega)]
      obtain rfl : k = 0 := by omega
      refine ext_Ac (by rw [blankK_len, hmv, hl]) fun i hi => ?_
      have hi' : i < l.length := by rw [blankK_len, hmv] at hi; exact hi
      rw [Ac_blankK _ _ _ _ _ (by omega), if_neg (by omega)]
      by_cases h1 : i < x
      · rw [movL_low _ _ _ _ _ (by omega) (by omega)]
      · obtain ⟨j, rfl⟩ : ∃ j, i = x + 0 + j := ⟨i - x, by omega⟩
        rw [movL_in _ _ _ _ _ (by omega) (by omega) (by omega)]
        rfl
  · rw [if_neg h, if_neg (by omega), mendL_idem]
/-- What Delete makes of a mended row, ahead of the mending. -/
def delT (M : List CC) (z N : Int) (b : CC) : List CC :=
  if (0 ≤ z ∧ z < (M.length : Int)) ∧ 1 ≤ N then (List.range M.length).map fun (i : Nat) => if (i : Int) < z then Ac M i else if (i : Int) + N < (M.length : Int) then Ac M (i + N.toNat) else b else M
theorem delT_len (M : List CC) (z N : Int) (b : CC) : (delT M z N b).length = M.length := by
  unfold delT
  split <;> simp
theorem del_same (l : List CC) (z N : Int) (b : CC) : delRow l z N b = mendL (delT (mendL l) z N b) := by
  have hl := mendL_len l
  unfold delRow delT
  by_cases h : 0 ≤ z ∧ z < (l.length : Int)
  · rw [if_pos h]
    obtain ⟨x, rfl⟩ : ∃ x : Nat, z = x := ⟨z.toNat, by omega⟩
    rw [Int.toNat_natCast]
    obtain ⟨k, hk⟩ : ∃ k : Nat, max (min N ((l.length - x : Nat) : Int)) 0 = (k : Int) := ⟨(max (min N ((l.length - x : Nat) : Int)) 0).toNat, by omega⟩
    rw [hk, Int.toNat_natCast]
    congr 1
    have hmv : (movL (mendL l) x (x + k) (l.length - x - k)).length = l.length := by rw [movL_len _ _ _ _ (by omega) (by omega), hl]
    by_cases hN : 1 ≤ N
    · rw [if_pos ⟨by omega, hN⟩]
      refine ext_Ac (by rw [blankK_len, hmv]; simp [hl]) fun i hi => ?_
      have hi' : i < l.length := by rw [blankK_len, hmv] at hi; exact hi
      rw [Ac_blankK _ _ _ _ _ (by omega), Ac_map _ _ _ (by omega)]
      by_cases h1 : (i : Int) < (x : Int)
      · rw [if_neg (by omega), if_pos h1, movL_low _ _ _ _ _ (by omega) (by omega)]
      · rw [if_neg h1]
        by_cases h2 : (i : Int) + N < ((mendL l).length : Int)
        · rw [if_pos h2, if_neg (by omega)]
          obtain ⟨j, rfl⟩ : ∃ j, i = x + j := ⟨i - x, by omega⟩
          rw [movL_in _ _ _ _ _ (by omega) (by omega) (by omega)]
          congr 1
          omega
        · rw [if_neg h2, if_pos (by omega)]
    · rw [if_neg (by omega)]
      obtain rfl : k = 0 := by omega
      refine ext_Ac (by rw [blankK_len, hmv, hl]) fun i hi => ?_
      have hi' : i < l.length := by rw [blankK_len, hmv] at hi; exact hi
      rw [Ac_blankK _ _ _ _ _ (by omega), if_neg (by omega)]
      by_cases h1 : i < x
      · rw [movL_low _ _ _ _ _ (by omega) (by omega)]
      · obtain ⟨j, rfl⟩ : ∃ j, i = x + j := ⟨i - x, by omega⟩
        rw [movL_in _ _ _ _ _ (by omega) (by omega) (by omega)]
        rfl
  · rw [if_neg h, if_neg (by omega), mendL_idem]
/-- One cell more of a row that grows to L. -/
theorem take_end {w wr W2 w5 : World} {B i : Nat} {vo v5 : Value} {L : List CC} (hi : i < L.length) (hown : wr.ownsRow B 44 8 vo i (cellsC (L.take i))) (hB0 : Below B w wr) (hBs : B ≤ w.heap.size) (hB : Below wr.heap.size wr W2) (ho5 : w5.ownsRow B 44 8 v5 (i + 1) (cellsC (L.take i) ++ encC (Ac L i))) (hg : W2.grownBy w5 vo.ownBlock) : w5.ownsRow B 44 8 v5 (i + 1) (cellsC (L.take (i + 1))) ∧ Below B w w5 := by
  have hs := hB0.size
  have hs2 := hB.size
  have hb : Below B w W2 := ⟨hB.os.trans hB0.os, hB.tape.trans hB0.tape, hB.output.trans hB0.output, by omega, fun k hk => (hB.block k (by omega)).trans (hB0.block k hk)⟩
  refine ⟨?_, hb.grown hg (by omega) fun k e => ?_⟩
  · have e : L.take (i + 1) = L.take i ++ [Ac L i] := by
      rw [List.take_succ_eq_append_getElem hi]
      unfold Ac
      rw [List.getElem?_eq_getElem hi]
      rfl
    rw [e, cellsC_snoc]
    exact ho5
  · rcases hown.2 with ⟨h1, _⟩ | ⟨g, cap, cur, h1, h2, _⟩
    · rw [h1] at e; cases e
    · rw [h1] at e
      cases e
      exact h2
end Go.Proofs.YtoiekhjmfoodiaaDoor

namespace Go.Proofs.YtoiekhjmfoodiaaDoor
open Go.RowKit

set_option maxRecDepth 100000 in
set_option maxHeartbeats 4000000 in
theorem refInsert_any (A : Option Addr) (l : List CC) (n c : Nat) (z N bk bn : Int) (hn : n = l.length) (hl : n ≤ 1000) (w : World) (h : RC w w.heap.size A l) :
    Calls Tryd.prog 44 #[.slice A n c, .int .i64 z, .int .i64 N, .agg #[.int .i64 bk, .int .i64 bn]] w fun e w' => ∃ v, e = .returned v ∧ OC w.heap.size w' v (insRow l z N (blankC bk bn)) ∧ Below w.heap.size w w' := by
  rw [ins_same]
  obtain ⟨i0, hi0, hz0, hz1, hz2⟩ := info_parts infoCell
  have hlen : (mendL l).length = n := by rw [mendL_len, hn]
  have HTL : Hid ((insT (mendL l) z N (blankC bk bn)).length = n) := Lib.hid (by rw [insT_len, hlen])
  have HM : Hid (∀ W, Below w.heap.size w W → Calls Tryd.prog 13 #[.slice A n c] W fun e w' => ∃ A' c', e = .returned (.slice A' n c') ∧ RC w' w'.heap.size A' (mendL l) ∧ Below W.heap.size W w') := Lib.hid fun W hW => (refMend_any A l n c hn hl W (h.past hW)).mono fun e w' ⟨v, he, ho, hb⟩ => by
    obtain ⟨A', c', e', hr⟩ := ho.form
    exact ⟨A', c', by rw [he, e', hlen], hr, hb⟩
  have HE : Hid (∀ (T : List CC) W A' c', T.length = n → RC W W.heap.size A' T → Calls Tryd.prog 13 #[.slice A' n c'] W fun e w' => ∃ v, e = .returned v ∧ OC W.heap.size w' v (mendL T) ∧ Below W.heap.size W w') := Lib.hid fun T W A' c' hT hr => refMend_any A' T n c' hT.symm hl W hr
  have HK := Lib.hid (refBlank_any bk bn)
  have HB0 := Lib.hid (belA (Below.refl w.heap.size w) (.cells #[.int .i64 bk, .int .i64 bn] 32))
  have HX1 := Lib.hid (heap_alloc_new w (.cells #[.int .i64 bk, .int .i64 bn] 32))
  have hs1 : (w.alloc (.cells #[.int .i64 bk, .int .i64 bn] 32)).heap.size = w.heap.size + 1 := by simp
  have HML := Lib.hid hlen
  clear h hn hlen
  generalize hM : mendL l = M at *
  clear hM
  generalize hTT : insT M z N (blankC bk bn) = T at *
  have HTT := Lib.hid hTT
  clear hTT
  go_enter Tryd.func44, Tryd.ntmps44
  go_wp2_with (go_at_call 13; (with_reducible refine (HM.out _ HB0.out).mono ?_); rintro e w1 ⟨A1, c1, rfl, hr1, hb1⟩; have HR1 := Lib.hid hr1; have HB1 := Lib.hid hb1; clear hr1 hb1)
  go_loopw [10, 11] (fun v q wr => ∃ (i : Nat) (vo : Value), vo = v ∧ q = .int .i64 i ∧ i ≤ n ∧ Hid (wr.ownsRow w1.heap.size 44 8 vo i (cellsC (T.take i))) ∧ Hid (Below w1.heap.size w1 wr)) (fun _ q _ => n - (intOf q).toNat)
  case atStart => exact ⟨0, _, rfl, rfl, Nat.zero_le _, Lib.hid (World.ownsRow_nil _ _ _ _), Lib.hid (Below.refl _ _)⟩
  case round =>
    obtain ⟨i, vo, rfl, rfl, hi, HO, HB⟩ := hrel
    have hbx := (HB1.out.block w.heap.size (by omega)).trans HX1.out
    have hbx2 := (HB.out.block w.heap.size (by have := HB1.out.size; omega)).trans hbx
    have c0 := cell_of_row _ _ 0 _ _ _ hbx2
    have c1' := cell_of_row _ _ 1 _ _ _ hbx2
    clear hbx hbx2
    by_cases hlt : i < n
    · have hl1 : (i : Int) < n := by omega
      have hil : i < T.length := by have := HTL.out; omega
      have hws := HB.out.size
      obtain ⟨Ao, co, rfl⟩ := own_form8 HO.out
      obtain ⟨b, off, rfl, hat⟩ := HR1.out.at (fun e => by have := HML.out; rw [e] at this; simp at this; omega)
      have HAT : Hid (∀ k, k < n → C8 wr b (off + k * 8) (Ac M k)) := Lib.hid fun k hk => (hat _ HB.out).2 k (by have := HML.out; omega)
      clear hat
      have HEND : Hid (∀ W2 w5 v5, Below wr.heap.size wr W2 → w5.ownsRow w1.heap.size 44 8 v5 (i + 1) (cellsC (T.take i) ++ encC (Ac T i)) → W2.grownBy w5 (Value.slice Ao i co).ownBlock → w5.ownsRow w1.heap.size 44 8 v5 (i + 1) (cellsC (T.take (i + 1))) ∧ Below w1.heap.size w1 w5) := Lib.hid fun W2 w5 v5 hb h1 h2 => take_end hil HO.out HB.out (Nat.le_refl _) hb h1 h2
      have HOWN : Hid (∀ W, Below wr.heap.size wr W → W.ownsRow w1.heap.size 44 8 (.slice Ao i co) i (cellsC (T.take i))) := Lib.hid fun W hW => own_past' HO.out hW
      have HBW := Lib.hid (Below.refl wr.heap.size wr)
      clear HO
      generalize cellsC (T.take i) = ol at HOWN HEND
      rcases (by omega : z < 0 ∨ (¬ z < 0 ∧ (n : Int) ≤ z) ∨ (¬ z < 0 ∧ ¬ (n : Int) ≤ z ∧ N < 1) ∨ (¬ z < 0 ∧ ¬ (n : Int) ≤ z ∧ ¬ N < 1 ∧ (i : Int) < z) ∨ (¬ z < 0 ∧ ¬ (n : Int) ≤ z ∧ ¬ N < 1 ∧ ¬ (i : Int) < z ∧ (i : Int) - z < N) ∨ (¬ z < 0 ∧ ¬ (n : Int) ≤ z ∧ ¬ N < 1 ∧ ¬ (i : Int) < z ∧ ¬ (i : Int) - z < N)) with hc | hc | hc | hc | hc | hc
      · have hy : Ac T i = Ac M i := by rw [← HTT.out]; unfold insT; rw [if_neg (by have := HML.out; omega)]
        rw [hy] at HEND
        clear hy
        obtain ⟨a0, a1, a2, a3, a4, a5, a6, a7⟩ := HAT.out i hlt
        have hd1 : decide (z < 0) = true := decide_eq_true hc
        generalize Ac M i = y at *
        have HN5 := Lib.hid (newsAt (W := wr) rfl y 44)
        clear hc HAT
        go_wp2_with (at_builtin; go_must (refine wpList_append_own _ rfl _ _ 22 rfl w1.heap.size 44 i0 _ 8 72 Tryd.underlying22 hi0 hz0 hz1 hz2 rfl (by decide) (.slice Ao i co) i ol rfl (HOWN.out _ (belA HBW.out _)) ⟨wr.heap.size, 0, none⟩ 1 1 (encC y) rfl rfl HN5.out (encC_one y) (by unfold maxLen; omega) (by omega) (by simp; omega) ?_; intro v5 w5 hown5 hgrow5 _; have HZ := Lib.hid (HEND.out _ _ _ (belA HBW.out _) hown5 hgrow5); clear hown5 hgrow5))
        go_roundw
        case rel => exact ⟨i + 1, _, rfl, by go_num, hlt, Lib.hid HZ.out.1, Lib.hid HZ.out.2⟩
        case measure => simp [intOf]; omega
      · have hy : Ac T i = Ac M i := by rw [← HTT.out]; unfold insT; rw [if_neg (by have := HML.out; omega)]
        rw [hy] at HEND
        clear hy
        obtain ⟨a0, a1, a2, a3, a4, a5, a6, a7⟩ := HAT.out i hlt
        have hd1 : decide (z < 0) = false := decide_eq_false hc.1
        have hd2 : decide ((n : Int) ≤ z) = true := decide_eq_true hc.2
        generalize Ac M i = y at *
        have HN5 := Lib.hid (newsAt (W := wr) rfl y 44)
        clear hc HAT
        go_wp2_with (at_builtin; go_must (refine wpList_append_own _ rfl _ _ 22 rfl w1.heap.size 44 i0 _ 8 72 Tryd.underlying22 hi0 hz0 hz1 hz2 rfl (by decide) (.slice Ao i co) i ol rfl (HOWN.out _ (belA HBW.out _)) ⟨wr.heap.size, 0, none⟩ 1 1 (encC y) rfl rfl HN5.out (encC_one y) (by unfold maxLen; omega) (by omega) (by simp; omega) ?_; intro v5 w5 hown5 hgrow5 _; have HZ := Lib.hid (HEND.out _ _ _ (belA HBW.out _) hown5 hgrow5); clear hown5 hgrow5))
        go_roundw
        case rel => exact ⟨i + 1, _, rfl, by go_num, hlt, Lib.hid HZ.out.1, Lib.hid HZ.out.2⟩
        case measure => simp [intOf]; omega
      · have hy : Ac T i = Ac M i := by rw [← HTT.out]; unfold insT; rw [if_neg (by have := HML.out; omega)]
        rw [hy] at HEND
        clear hy
        obtain ⟨a0, a1, a2, a3, a4, a5, a6, a7⟩ := HAT.out i hlt
        have hd1 : decide (z < 0) = false := decide_eq_false hc.1
        have hd2 : decide ((n : Int) ≤ z) = false := decide_eq_false hc.2.1
        have hd3 : decide (N < 1) = true := decide_eq_true hc.2.2
        generalize Ac M i = y at *
        have HN5 := Lib.hid (newsAt (W := wr) rfl y 44)
        clear hc HAT
        go_wp2_with (at_builtin; go_must (refine wpList_append_own _ rfl _ _ 22 rfl w1.heap.size 44 i0 _ 8 72 Tryd.underlying22 hi0 hz0 hz1 hz2 rfl (by decide) (.slice Ao i co) i ol rfl (HOWN.out _ (belA HBW.out _)) ⟨wr.heap.size, 0, none⟩ 1 1 (encC y) rfl rfl HN5.out (encC_one y) (by unfold maxLen; omega) (by omega) (by simp; omega) ?_; intro v5 w5 hown5 hgrow5 _; have HZ := Lib.hid (HEND.out _ _ _ (belA HBW.out _) hown5 hgrow5); clear hown5 hgrow5))
        go_roundw
        case rel => exact ⟨i + 1, _, rfl, by go_num, hlt, Lib.hid HZ.out.1, Lib.hid HZ.out.2⟩
        case measure => simp [intOf]; omega
      · have hy : Ac T i = Ac M i := by rw [← HTT.out]; unfold insT; rw [if_pos (by have := HML.out; omega), Ac_map _ _ _ (by have := HML.out; omega), if_pos hc.2.2.2]
        rw [hy] at HEND
        clear hy
        obtain ⟨a0, a1, a2, a3, a4, a5, a6, a7⟩ := HAT.out i hlt
        have hd1 : decide (z < 0) = false := decide_eq_false hc.1
        have hd2 : decide ((n : Int) ≤ z) = false := decide_eq_false hc.2.1
        have hd3 : decide (N < 1) = false := decide_eq_false hc.2.2.1
        have hd4 : decide ((i : Int) < z) = true := decide_eq_true hc.2.2.2
        generalize Ac M i = y at *
        have HN5 := Lib.hid (newsAt (W := wr) rfl y 44)
        clear hc HAT
        go_wp2_with (at_builtin; go_must (refine wpList_append_own _ rfl _ _ 22 rfl w1.heap.size 44 i0 _ 8 72 Tryd.underlying22 hi0 hz0 hz1 hz2 rfl (by decide) (.slice Ao i co) i ol rfl (HOWN.out _ (belA HBW.out _)) ⟨wr.heap.size, 0, none⟩ 1 1 (encC y) rfl rfl HN5.out (encC_one y) (by unfold maxLen; omega) (by omega) (by simp; omega) ?_; intro v5 w5 hown5 hgrow5 _; have HZ := Lib.hid (HEND.out _ _ _ (belA HBW.out _) hown5 hgrow5); clear hown5 hgrow5))
        go_roundw
        case rel => exact ⟨i + 1, _, rfl, by go_num, hlt, Lib.hid HZ.out.1, Lib.hid HZ.out.2⟩
        case measure => simp [intOf]; omega
      · have hy : Ac T i = blankC bk bn := by rw [← HTT.out]; unfold insT; rw [if_pos (by have := HML.out; omega), Ac_map _ _ _ (by have := HML.out; omega), if_neg hc.2.2.2.1, if_pos hc.2.2.2.2]
        rw [hy] at HEND
        clear hy
        have hw : IntKind.i64.wrap ((i : Int) - z) = (i : Int) - z := IntWalk.i64_in _ (by omega)
        have hd1 : decide (z < 0) = false := decide_eq_false hc.1
        have hd2 : decide ((n : Int) ≤ z) = false := decide_eq_false hc.2.1
        have hd3 : decide (N < 1) = false := decide_eq_false hc.2.2.1
        have hd4 : decide ((i : Int) < z) = false := decide_eq_false hc.2.2.2.1
        have hd5 : decide ((i : Int) - z < N) = true := decide_eq_true hc.2.2.2.2
        clear hc HAT
        go_wp2_with (first
          | (go_at_call 40; (with_reducible refine (HK.out _).mono ?_); rintro e w2 ⟨rfl, hb2⟩; have hs2 := hb2.size; have HB2 := Lib.hid hb2; have HN5 := Lib.hid (newsAt (W := w2) rfl (blankC bk bn) 44); clear hb2)
          | (at_builtin; go_must (refine wpList_append_own _ rfl _ _ 22 rfl w1.heap.size 44 i0 _ 8 72 Tryd.underlying22 hi0 hz0 hz1 hz2 rfl (by decide) (.slice Ao i co) i ol rfl (HOWN.out _ (belA HB2.out _)) ⟨w2.heap.size, 0, none⟩ 1 1 (encC (blankC bk bn)) rfl rfl HN5.out (encC_one (blankC bk bn)) (by unfold maxLen; omega) (by omega) (by simp; omega) ?_; intro v5 w5 hown5 hgrow5 _; have HZ := Lib.hid (HEND.out _ _ _ (belA HB2.out _) hown5 hgrow5); clear hown5 hgrow5)))
        go_roundw
        case rel => exact ⟨i + 1, _, rfl, by go_num, hlt, Lib.hid HZ.out.1, Lib.hid HZ.out.2⟩
        case measure => simp [intOf]; omega
      · obtain ⟨j, hj⟩ : ∃ j : Nat, (i : Int) - N = j := ⟨((i : Int) - N).toNat, by omega⟩
        have hy : Ac T i = Ac M j := by rw [← HTT.out]; unfold insT; rw [if_pos (by have := HML.out; omega), Ac_map _ _ _ (by have := HML.out; omega), if_neg hc.2.2.2.1, if_neg hc.2.2.2.2, show i - N.toNat = j by omega]
        rw [hy] at HEND
        clear hy
        have hw : IntKind.i64.wrap ((i : Int) - z) = (i : Int) - z := IntWalk.i64_in _ (by omega)
        have hw2 : IntKind.i64.wrap ((i : Int) - N) = (j : Int) := by rw [IntWalk.i64_in _ (by omega)]; exact hj
        have hjn : (j : Int) < n := by omega
        have hj0 : j < n := by omega
        obtain ⟨a0, a1, a2, a3, a4, a5, a6, a7⟩ := HAT.out j hj0
        have hd1 : decide (z < 0) = false := decide_eq_false hc.1
        have hd2 : decide ((n : Int) ≤ z) = false := decide_eq_false hc.2.1
        have hd3 : decide (N < 1) = false := decide_eq_false hc.2.2.1
        have hd4 : decide ((i : Int) < z) = false := decide_eq_false hc.2.2.2.1
        have hd5 : decide ((i : Int) - z < N) = false := decide_eq_false hc.2.2.2.2
        generalize Ac M j = y at *
        have HN5 := Lib.hid (newsAt (W := wr) rfl y 44)
        clear hc HAT hj
        go_wp2_with (at_builtin; go_must (refine wpList_append_own _ rfl _ _ 22 rfl w1.heap.size 44 i0 _ 8 72 Tryd.underlying22 hi0 hz0 hz1 hz2 rfl (by decide) (.slice Ao i co) i ol rfl (HOWN.out _ (belA HBW.out _)) ⟨wr.heap.size, 0, none⟩ 1 1 (encC y) rfl rfl HN5.out (encC_one y) (by unfold maxLen; omega) (by omega) (by simp; omega) ?_; intro v5 w5 hown5 hgrow5 _; have HZ := Lib.hid (HEND.out _ _ _ (belA HBW.out _) hown5 hgrow5); clear hown5 hgrow5))
        go_roundw
        case rel => exact ⟨i + 1, _, rfl, by go_num, hlt, Lib.hid HZ.out.1, Lib.hid HZ.out.2⟩
        case measure => simp [intOf]; omega
    · obtain rfl : i = n := by omega
      obtain ⟨Ao, co, rfl⟩ := own_form8 HO.out
      have HRO := Lib.hid (RC.of_own HO.out (by rw [List.length_take]; have := HTL.out; omega))
      rw [List.take_of_length_le (by have := HTL.out; omega)] at HRO
      have HBW := Lib.hid (bel0 (bel0 HB0.out HB1.out) HB.out)
      clear HO
      go_wp2_with (go_at_call 13; (with_reducible refine (HE.out T _ _ _ HTL.out HRO.out).mono ?_); rintro e w6 ⟨v, rfl, ho, hb⟩; have HO6 := Lib.hid ho; have HB6 := Lib.hid hb; clear ho hb)
      go_ret
      exact ⟨_, rfl, HO6.out.lower HBW.out.size, bel0 HBW.out HB6.out⟩
end Go.Proofs.YtoiekhjmfoodiaaDoor

namespace Go.Proofs.YtoiekhjmfoodiaaDoor
open Go.RowKit

/-- How many cells the document's Delete has taken of the first i. -/
def cntD (n : Nat) (z N : Int) (i : Nat) : Nat := if (0 ≤ z ∧ z < (n : Int)) ∧ 1 ≤ N then min i z.toNat + (i - (z.toNat + N.toNat)) else i
set_option maxRecDepth 100000 in
set_option maxHeartbeats 4000000 in
theorem refDelete_any (A : Option Addr) (l : List CC) (n c : Nat) (z N bk bn : Int) (hn : n = l.length) (hl : n ≤ 1000) (w : World) (h : RC w w.heap.size A l) :
    Calls Tryd.prog 45 #[.slice A n c, .int .i64 z, .int .i64 N, .agg #[.int .i64 bk, .int .i64 bn]] w fun e w' => ∃ v, e = .returned v ∧ OC w.heap.size w' v (delRow l z N (blankC bk bn)) ∧ Below w.heap.size w w' := by
  rw [del_same]
  obtain ⟨i0, hi0, hz0, hz1, hz2⟩ := info_parts infoCell
  have hlen : (mendL l).length = n := by rw [mendL_len, hn]
  have HTL : Hid ((delT (mendL l) z N (blankC bk bn)).length = n) := Lib.hid (by rw [delT_len, hlen])
  have HM : Hid (∀ W, Below w.heap.size w W → Calls Tryd.prog 13 #[.slice A n c] W fun e w' => ∃ A' c', e = .returned (.slice A' n c') ∧ RC w' w'.heap.size A' (mendL l) ∧ Below W.heap.size W w') := Lib.hid fun W hW => (refMend_any A l n c hn hl W (h.past hW)).mono fun e w' ⟨v, he, ho, hb⟩ => by
    obtain ⟨A', c', e', hr⟩ := ho.form
    exact ⟨A', c', by rw [he, e', hlen], hr, hb⟩
  have HE : Hid (∀ (T : List CC) W A' c', T.length = n → RC W W.heap.size A' T → Calls Tryd.prog 13 #[.slice A' n c'] W fun e w' => ∃ v, e = .returned v ∧ OC W.heap.size w' v (mendL T) ∧ Below W.heap.size W w') := Lib.hid fun T W A' c' hT hr => refMend_any A' T n c' hT.symm hl W hr
  have HK := Lib.hid (refBlank_any bk bn)
  have HB0 := Lib.hid (belA (Below.refl w.heap.size w) (.cells #[.int .i64 bk, .int .i64 bn] 32))
  have HX1 := Lib.hid (heap_alloc_new w (.cells #[.int .i64 bk, .int .i64 bn] 32))
  have hs1 : (w.alloc (.cells #[.int .i64 bk, .int .i64 bn] 32)).heap.size = w.heap.size + 1 := by simp
  have HML := Lib.hid hlen
  clear h hn hlen
  generalize hM : mendL l = M at *
  clear hM
  generalize hTT : delT M z N (blankC bk bn) = T at *
  have HTT := Lib.hid hTT
  clear hTT
  go_enter Tryd.func45, Tryd.ntmps45
  go_wp2_with (go_at_call 13; (with_reducible refine (HM.out _ HB0.out).mono ?_); rintro e w1 ⟨A1, c1, rfl, hr1, hb1⟩; have HR1 := Lib.hid hr1; have HB1 := Lib.hid hb1; clear hr1 hb1)
  go_loopw [10, 11] (fun v q wr => ∃ (i : Nat) (vo : Value), vo = v ∧ q = .int .i64 i ∧ i ≤ n ∧ Hid (wr.ownsRow w1.heap.size 44 8 vo (cntD n z N i) (cellsC (T.take (cntD n z N i)))) ∧ Hid (Below w1.heap.size w1 wr)) (fun _ q _ => n - (intOf q).toNat)
  case atStart => exact ⟨0, _, rfl, rfl, Nat.zero_le _, Lib.hid ((by rw [show cntD n z N 0 = 0 by unfold cntD; split <;> omega]; exact World.ownsRow_nil _ _ _ _)), Lib.hid (Below.refl _ _)⟩
  case round =>
    obtain ⟨i, vo, rfl, rfl, hi, HO, HB⟩ := hrel
    have HCN : Hid (cntD n z N i ≤ i) := Lib.hid (by unfold cntD; split <;> omega)
    by_cases hlt : i < n
    · have hl1 : (i : Int) < n := by omega
      have hws := HB.out.size
      obtain ⟨Ao, co, rfl⟩ := own_form8 HO.out
      obtain ⟨b, off, rfl, hat⟩ := HR1.out.at (fun e => by have := HML.out; rw [e] at this; simp at this; omega)
      obtain ⟨a0, a1, a2, a3, a4, a5, a6, a7⟩ := (hat _ HB.out).2 i (by have := HML.out; omega)
      clear hat
      have HEND : Hid (∀ j W2 w5 v5, j = cntD n z N i → cntD n z N (i + 1) = j + 1 → Ac T j = Ac M i → Below wr.heap.size wr W2 → w5.ownsRow w1.heap.size 44 8 v5 (j + 1) (cellsC (T.take j) ++ encC (Ac M i)) → W2.grownBy w5 (Value.slice Ao j co).ownBlock → w5.ownsRow w1.heap.size 44 8 v5 (cntD n z N (i + 1)) (cellsC (T.take (cntD n z N (i + 1)))) ∧ Below w1.heap.size w1 w5) := Lib.hid fun j W2 w5 v5 hj hj1 hy hb h1 h2 => by
        rw [hj1]
        subst hj
        exact take_end (by have := HCN.out; have := HTL.out; omega) HO.out HB.out (Nat.le_refl _) hb (by rw [hy]; exact h1) h2
      have HOWN : Hid (∀ j W, j = cntD n z N i → Below wr.heap.size wr W → W.ownsRow w1.heap.size 44 8 (.slice Ao j co) j (cellsC (T.take j))) := Lib.hid fun j W hj hW => by
        subst hj
        exact own_past' HO.out hW
      have HBW := Lib.hid (Below.refl wr.heap.size wr)
      have hskip : (¬ z < 0 ∧ ¬ (n : Int) ≤ z ∧ ¬ N < 1 ∧ ¬ (i : Int) < z ∧ ¬ N ≤ (i : Int) - z) → cntD n z N (i + 1) = cntD n z N i := fun hc => by
        unfold cntD
        rw [if_pos (by omega), if_pos (by omega)]
        omega
      have hstep : (z < 0 ∨ (n : Int) ≤ z ∨ N < 1 ∨ (i : Int) < z ∨ N ≤ (i : Int) - z) → cntD n z N (i + 1) = cntD n z N i + 1 ∧ Ac T (cntD n z N i) = Ac M i := fun hc => by
        rw [← HTT.out]
        have hML := HML.out
        unfold cntD delT
        by_cases hr : (0 ≤ z ∧ z < (n : Int)) ∧ 1 ≤ N
        · rw [if_pos hr, if_pos hr, if_pos (by omega), Ac_map _ _ _ (by omega)]
          refine ⟨by omega, ?_⟩
          by_cases h1 : (i : Int) < z
          · rw [if_pos (by omega)]
            congr 1
            omega
          · rw [if_neg (by omega), if_pos (by omega)]
            congr 1
            omega
        · rw [if_neg hr, if_neg hr, if_neg (by omega)]
          exact ⟨rfl, rfl⟩
      have HSK := Lib.hid hskip
      have HST := Lib.hid hstep
      have HOZ := Lib.hid HO.out
      clear HO hskip hstep
      rcases (by omega : z < 0 ∨ (¬ z < 0 ∧ (n : Int) ≤ z) ∨ (¬ z < 0 ∧ ¬ (n : Int) ≤ z ∧ N < 1) ∨ (¬ z < 0 ∧ ¬ (n : Int) ≤ z ∧ ¬ N < 1 ∧ (i : Int) < z) ∨ (¬ z < 0 ∧ ¬ (n : Int) ≤ z ∧ ¬ N < 1 ∧ ¬ (i : Int) < z ∧ N ≤ (i : Int) - z) ∨ (¬ z < 0 ∧ ¬ (n : Int) ≤ z ∧ ¬ N < 1 ∧ ¬ (i : Int) < z ∧ ¬ N ≤ (i : Int) - z)) with hc | hc | hc | hc | hc | hc
      · have hd1 : decide (z < 0) = true := decide_eq_true hc
        obtain ⟨hj1, hy⟩ := HST.out (by omega)
        have HCJ := Lib.hid hj1
        have HYJ := Lib.hid hy
        have HJN : Hid (cntD n z N i ≤ 1000) := Lib.hid (by have := HCN.out; omega)
        clear hj1 hy
        have HEND0 := Lib.hid HEND.out
        have HOWN0 := Lib.hid HOWN.out
        clear HEND HOWN
        have HEND : Hid (∀ W2 w5 v5, Below wr.heap.size wr W2 → w5.ownsRow w1.heap.size 44 8 v5 (cntD n z N i + 1) (cellsC (T.take (cntD n z N i)) ++ encC (Ac M i)) → W2.grownBy w5 (Value.slice Ao (cntD n z N i) co).ownBlock → w5.ownsRow w1.heap.size 44 8 v5 (cntD n z N (i + 1)) (cellsC (T.take (cntD n z N (i + 1)))) ∧ Below w1.heap.size w1 w5) := Lib.hid fun W2 w5 v5 => HEND0.out _ W2 w5 v5 rfl HCJ.out HYJ.out
        have HOWN : Hid (∀ W, Below wr.heap.size wr W → W.ownsRow w1.heap.size 44 8 (.slice Ao (cntD n z N i) co) (cntD n z N i) (cellsC (T.take (cntD n z N i)))) := Lib.hid fun W => HOWN0.out _ W rfl
        clear HEND0 HOWN0 HOZ HCJ HYJ HST HSK HCN
        generalize cellsC (T.take (cntD n z N i)) = ol at HOWN HEND
        generalize Ac M i = y at *
        generalize cntD n z N i = j at *
        have hj1000 := HJN.out
        have HN5 := Lib.hid (newsAt (W := wr) rfl y 44)
        clear hc
        go_wp2_with (at_builtin; go_must (refine wpList_append_own _ rfl _ _ 22 rfl w1.heap.size 44 i0 _ 8 72 Tryd.underlying22 hi0 hz0 hz1 hz2 rfl (by decide) (.slice Ao j co) j ol rfl (HOWN.out _ (belA HBW.out _)) ⟨wr.heap.size, 0, none⟩ 1 1 (encC y) rfl rfl HN5.out (encC_one y) (by unfold maxLen; omega) (by omega) (by simp; omega) ?_; intro v5 w5 hown5 hgrow5 _; have HZ := Lib.hid (HEND.out _ _ _ (belA HBW.out _) hown5 hgrow5); clear hown5 hgrow5))
        go_roundw
        case rel => exact ⟨i + 1, _, rfl, by go_num, hlt, Lib.hid HZ.out.1, Lib.hid HZ.out.2⟩
        case measure => simp [intOf]; omega
      · have hd1 : decide (z < 0) = false := decide_eq_false hc.1
        have hd2 : decide ((n : Int) ≤ z) = true := decide_eq_true hc.2
        obtain ⟨hj1, hy⟩ := HST.out (by omega)
        have HCJ := Lib.hid hj1
        have HYJ := Lib.hid hy
        have HJN : Hid (cntD n z N i ≤ 1000) := Lib.hid (by have := HCN.out; omega)
        clear hj1 hy
        have HEND0 := Lib.hid HEND.out
        have HOWN0 := Lib.hid HOWN.out
        clear HEND HOWN
        have HEND : Hid (∀ W2 w5 v5, Below wr.heap.size wr W2 → w5.ownsRow w1.heap.size 44 8 v5 (cntD n z N i + 1) (cellsC (T.take (cntD n z N i)) ++ encC (Ac M i)) → W2.grownBy w5 (Value.slice Ao (cntD n z N i) co).ownBlock → w5.ownsRow w1.heap.size 44 8 v5 (cntD n z N (i + 1)) (cellsC (T.take (cntD n z N (i + 1)))) ∧ Below w1.heap.size w1 w5) := Lib.hid fun W2 w5 v5 => HEND0.out _ W2 w5 v5 rfl HCJ.out HYJ.out
        have HOWN : Hid (∀ W, Below wr.heap.size wr W → W.ownsRow w1.heap.size 44 8 (.slice Ao (cntD n z N i) co) (cntD n z N i) (cellsC (T.take (cntD n z N i)))) := Lib.hid fun W => HOWN0.out _ W rfl
        clear HEND0 HOWN0 HOZ HCJ HYJ HST HSK HCN
        generalize cellsC (T.take (cntD n z N i)) = ol at HOWN HEND
        generalize Ac M i = y at *
        generalize cntD n z N i = j at *
        have hj1000 := HJN.out
        have HN5 := Lib.hid (newsAt (W := wr) rfl y 44)
        clear hc
        go_wp2_with (at_builtin; go_must (refine wpList_append_own _ rfl _ _ 22 rfl w1.heap.size 44 i0 _ 8 72 Tryd.underlying22 hi0 hz0 hz1 hz2 rfl (by decide) (.slice Ao j co) j ol rfl (HOWN.out _ (belA HBW.out _)) ⟨wr.heap.size, 0, none⟩ 1 1 (encC y) rfl rfl HN5.out (encC_one y) (by unfold maxLen; omega) (by omega) (by simp; omega) ?_; intro v5 w5 hown5 hgrow5 _; have HZ := Lib.hid (HEND.out _ _ _ (belA HBW.out _) hown5 hgrow5); clear hown5 hgrow5))
        go_roundw
        case rel => exact ⟨i + 1, _, rfl, by go_num, hlt, Lib.hid HZ.out.1, Lib.hid HZ.out.2⟩
        case measure => simp [intOf]; omega
      · have hd1 : decide (z < 0) = false := decide_eq_false hc.1
        have hd2 : decide ((n : Int) ≤ z) = false := decide_eq_false hc.2.1
        have hd3 : decide (N < 1) = true := decide_eq_true hc.2.2
        obtain ⟨hj1, hy⟩ := HST.out (by omega)
        have HCJ := Lib.hid hj1
        have HYJ := Lib.hid hy
        have HJN : Hid (cntD n z N i ≤ 1000) := Lib.hid (by have := HCN.out; omega)
        clear hj1 hy
        have HEND0 := Lib.hid HEND.out
        have HOWN0 := Lib.hid HOWN.out
        clear HEND HOWN
        have HEND : Hid (∀ W2 w5 v5, Below wr.heap.size wr W2 → w5.ownsRow w1.heap.size 44 8 v5 (cntD n z N i + 1) (cellsC (T.take (cntD n z N i)) ++ encC (Ac M i)) → W2.grownBy w5 (Value.slice Ao (cntD n z N i) co).ownBlock → w5.ownsRow w1.heap.size 44 8 v5 (cntD n z N (i + 1)) (cellsC (T.take (cntD n z N (i + 1)))) ∧ Below w1.heap.size w1 w5) := Lib.hid fun W2 w5 v5 => HEND0.out _ W2 w5 v5 rfl HCJ.out HYJ.out
        have HOWN : Hid (∀ W, Below wr.heap.size wr W → W.ownsRow w1.heap.size 44 8 (.slice Ao (cntD n z N i) co) (cntD n z N i) (cellsC (T.take (cntD n z N i)))) := Lib.hid fun W => HOWN0.out _ W rfl
        clear HEND0 HOWN0 HOZ HCJ HYJ HST HSK HCN
        generalize cellsC (T.take (cntD n z N i)) = ol at HOWN HEND
        generalize Ac M i = y at *
        generalize cntD n z N i = j at *
        have hj1000 := HJN.out
        have HN5 := Lib.hid (newsAt (W := wr) rfl y 44)
        clear hc
        go_wp2_with (at_builtin; go_must (refine wpList_append_own _ rfl _ _ 22 rfl w1.heap.size 44 i0 _ 8 72 Tryd.underlying22 hi0 hz0 hz1 hz2 rfl (by decide) (.slice Ao j co) j ol rfl (HOWN.out _ (belA HBW.out _)) ⟨wr.heap.size, 0, none⟩ 1 1 (encC y) rfl rfl HN5.out (encC_one y) (by unfold maxLen; omega) (by omega) (by simp; omega) ?_; intro v5 w5 hown5 hgrow5 _; have HZ := Lib.hid (HEND.out _ _ _ (belA HBW.out _) hown5 hgrow5); clear hown5 hgrow5))
        go_roundw
        case rel => exact ⟨i + 1, _, rfl, by go_num, hlt, Lib.hid HZ.out.1, Lib.hid HZ.out.2⟩
        case measure => simp [intOf]; omega
      · have hd1 : decide (z < 0) = false := decide_eq_false hc.1
        have hd2 : decide ((n : Int) ≤ z) = false := decide_eq_false hc.2.1
        have hd3 : decide (N < 1) = false := decide_eq_false hc.2.2.1
        have hd4 : decide ((i : Int) < z) = true := decide_eq_true hc.2.2.2
        obtain ⟨hj1, hy⟩ := HST.out (by omega)
        have HCJ := Lib.hid hj1
        have HYJ := Lib.hid hy
        have HJN : Hid (cntD n z N i ≤ 1000) := Lib.hid (by have := HCN.out; omega)
        clear hj1 hy
        have HEND0 := Lib.hid HEND.out
        have HOWN0 := Lib.hid HOWN.out
        clear HEND HOWN
        have HEND : Hid (∀ W2 w5 v5, Below wr.heap.size wr W2 → w5.ownsRow w1.heap.size 44 8 v5 (cntD n z N i + 1) (cellsC (T.take (cntD n z N i)) ++ encC (Ac M i)) → W2.grownBy w5 (Value.slice Ao (cntD n z N i) co).ownBlock → w5.ownsRow w1.heap.size 44 8 v5 (cntD n z N (i + 1)) (cellsC (T.take (cntD n z N (i + 1)))) ∧ Below w1.heap.size w1 w5) := Lib.hid fun W2 w5 v5 => HEND0.out _ W2 w5 v5 rfl HCJ.out HYJ.out
        have HOWN : Hid (∀ W, Below wr.heap.size wr W → W.ownsRow w1.heap.size 44 8 (.slice Ao (cntD n z N i) co) (cntD n z N i) (cellsC (T.take (cntD n z N i)))) := Lib.hid fun W => HOWN0.out _ W rfl
        clear HEND0 HOWN0 HOZ HCJ HYJ HST HSK HCN
        generalize cellsC (T.take (cntD n z N i)) = ol at HOWN HEND
        generalize Ac M i = y at *
        generalize cntD n z N i = j at *
        have hj1000 := HJN.out
        have HN5 := Lib.hid (newsAt (W := wr) rfl y 44)
        clear hc
        go_wp2_with (at_builtin; go_must (refine wpList_append_own _ rfl _ _ 22 rfl w1.heap.size 44 i0 _ 8 72 Tryd.underlying22 hi0 hz0 hz1 hz2 rfl (by decide) (.slice Ao j co) j ol rfl (HOWN.out _ (belA HBW.out _)) ⟨wr.heap.size, 0, none⟩ 1 1 (encC y) rfl rfl HN5.out (encC_one y) (by unfold maxLen; omega) (by omega) (by simp; omega) ?_; intro v5 w5 hown5 hgrow5 _; have HZ := Lib.hid (HEND.out _ _ _ (belA HBW.out _) hown5 hgrow5); clear hown5 hgrow5))
        go_roundw
        case rel => exact ⟨i + 1, _, rfl, by go_num, hlt, Lib.hid HZ.out.1, Lib.hid HZ.out.2⟩
        case measure => simp [intOf]; omega
      · have hw : IntKind.i64.wrap ((i : Int) - z) = (i : Int) - z := IntWalk.i64_in _ (by omega)
        have hd1 : decide (z < 0) = false := decide_eq_false hc.1
        have hd2 : decide ((n : Int) ≤ z) = false := decide_eq_false hc.2.1
        have hd3 : decide (N < 1) = false := decide_eq_false hc.2.2.1
        have hd4 : decide ((i : Int) < z) = false := decide_eq_false hc.2.2.2.1
        have hd5 : decide (N ≤ (i : Int) - z) = true := decide_eq_true hc.2.2.2.2
        obtain ⟨hj1, hy⟩ := HST.out (by omega)
        have HCJ := Lib.hid hj1
        have HYJ := Lib.hid hy
        have HJN : Hid (cntD n z N i ≤ 1000) := Lib.hid (by have := HCN.out; omega)
        clear hj1 hy
        have HEND0 := Lib.hid HEND.out
        have HOWN0 := Lib.hid HOWN.out
        clear HEND HOWN
        have HEND : Hid (∀ W2 w5 v5, Below wr.heap.size wr W2 → w5.ownsRow w1.heap.size 44 8 v5 (cntD n z N i + 1) (cellsC (T.take (cntD n z N i)) ++ encC (Ac M i)) → W2.grownBy w5 (Value.slice Ao (cntD n z N i) co).ownBlock → w5.ownsRow w1.heap.size 44 8 v5 (cntD n z N (i + 1)) (cellsC (T.take (cntD n z N (i + 1)))) ∧ Below w1.heap.size w1 w5) := Lib.hid fun W2 w5 v5 => HEND0.out _ W2 w5 v5 rfl HCJ.out HYJ.out
        have HOWN : Hid (∀ W, Below wr.heap.size wr W → W.ownsRow w1.heap.size 44 8 (.slice Ao (cntD n z N i) co) (cntD n z N i) (cellsC (T.take (cntD n z N i)))) := Lib.hid fun W => HOWN0.out _ W rfl
        clear HEND0 HOWN0 HOZ HCJ HYJ HST HSK HCN
        generalize cellsC (T.take (cntD n z N i)) = ol at HOWN HEND
        generalize Ac M i = y at *
        generalize cntD n z N i = j at *
        have hj1000 := HJN.out
        have HN5 := Lib.hid (newsAt (W := wr) rfl y 44)
        clear hc
        go_wp2_with (at_builtin; go_must (refine wpList_append_own _ rfl _ _ 22 rfl w1.heap.size 44 i0 _ 8 72 Tryd.underlying22 hi0 hz0 hz1 hz2 rfl (by decide) (.slice Ao j co) j ol rfl (HOWN.out _ (belA HBW.out _)) ⟨wr.heap.size, 0, none⟩ 1 1 (encC y) rfl rfl HN5.out (encC_one y) (by unfold maxLen; omega) (by omega) (by simp; omega) ?_; intro v5 w5 hown5 hgrow5 _; have HZ := Lib.hid (HEND.out _ _ _ (belA HBW.out _) hown5 hgrow5); clear hown5 hgrow5))
        go_roundw
        case rel => exact ⟨i + 1, _, rfl, by go_num, hlt, Lib.hid HZ.out.1, Lib.hid HZ.out.2⟩
        case measure => simp [intOf]; omega
      · have hw : IntKind.i64.wrap ((i : Int) - z) = (i : Int) - z := IntWalk.i64_in _ (by omega)
        have hd1 : decide (z < 0) = false := decide_eq_false hc.1
        have hd2 : decide ((n : Int) ≤ z) = false := decide_eq_false hc.2.1
        have hd3 : decide (N < 1) = false := decide_eq_false hc.2.2.1
        have hd4 : decide ((i : Int) < z) = false := decide_eq_false hc.2.2.2.1
        have hd5 : decide (N ≤ (i : Int) - z) = false := decide_eq_false hc.2.2.2.2
        have HOS : Hid (wr.ownsRow w1.heap.size 44 8 (.slice Ao (cntD n z N i) co) (cntD n z N (i + 1)) (cellsC (T.take (cntD n z N (i + 1))))) := Lib.hid (by rw [HSK.out hc]; exact HOZ.out)
        clear hc HEND HOWN HOZ HST HSK HCN
        generalize cntD n z N i = j at *
        go_wp2
        go_roundw
        case rel => exact ⟨i + 1, _, rfl, by go_num, hlt, HOS, HB⟩
        case measure => simp [intOf]; omega
    · obtain rfl : i = n := by omega
      have HCI : Hid (∀ k, cntD i z N i ≤ k → k < i → Ac T k = blankC bk bn) := Lib.hid fun k h1 h2 => by
        rw [← HTT.out]
        have hML := HML.out
        unfold cntD at h1
        unfold delT
        by_cases hr : (0 ≤ z ∧ z < (i : Int)) ∧ 1 ≤ N
        · rw [if_pos hr] at h1
          rw [if_pos (by omega), Ac_map _ _ _ (by omega), if_neg (by omega), if_neg (by omega)]
        · rw [if_neg hr] at h1
          omega
      have HB2 := Lib.hid HB.out
      have hcn := HCN.out
      clear HCN
      generalize hcj : cntD i z N i = j0 at *
      clear hcj
      generalize hwq : wr = wq at *
      clear hwq
      go_wp2
      go_loopw [10] (fun v wr => ∃ (j : Nat) (vo : Value), vo = v ∧ j0 ≤ j ∧ j ≤ i ∧ Hid (∃ Ao co, vo = .slice Ao j co) ∧ Hid (wr.ownsRow w1.heap.size 44 8 vo j (cellsC (T.take j))) ∧ Hid (Below w1.heap.size w1 wr)) (fun v _ => i - (match v with | .slice _ k _ => k | _ => 0))
      case atStart => exact ⟨j0, _, rfl, Nat.le_refl _, hcn, Lib.hid (own_form8 HO.out), HO, HB2⟩
      case round =>
        clear HO HB
        obtain ⟨j, vo, rfl, hj0, hji, HF, HO, HB⟩ := hrel
        obtain ⟨Ao, co, rfl⟩ := HF.out
        clear HF
        have hbx := (HB1.out.block w.heap.size (by omega)).trans HX1.out
        have hbx2 := (HB.out.block w.heap.size (by have := HB1.out.size; omega)).trans hbx
        have c0 := cell_of_row _ _ 0 _ _ _ hbx2
        have c1' := cell_of_row _ _ 1 _ _ _ hbx2
        clear hbx hbx2
        by_cases hlt2 : j < i
        · have hl2 : (j : Int) < i := by omega
          have hjl : j < T.length := by have := HTL.out; omega
          have hws := HB.out.size
          have HEND : Hid (∀ W2 w5 v5, Below wr.heap.size wr W2 → w5.ownsRow w1.heap.size 44 8 v5 (j + 1) (cellsC (T.take j) ++ encC (blankC bk bn)) → W2.grownBy w5 (Value.slice Ao j co).ownBlock → w5.ownsRow w1.heap.size 44 8 v5 (j + 1) (cellsC (T.take (j + 1))) ∧ Below w1.heap.size w1 w5) := Lib.hid fun W2 w5 v5 hb h1 h2 => take_end hjl HO.out HB.out (Nat.le_refl _) hb (by rw [HCI.out j hj0 hlt2]; exact h1) h2
          have HOWN : Hid (∀ W, Below wr.heap.size wr W → W.ownsRow w1.heap.size 44 8 (.slice Ao j co) j (cellsC (T.take j))) := Lib.hid fun W hW => own_past' HO.out hW
          clear HO
          generalize cellsC (T.take j) = ol at HOWN HEND
          go_wp2_with (first
            | (go_at_call 40; (with_reducible refine (HK.out _).mono ?_); rintro e w2 ⟨rfl, hb2⟩; have hs2 := hb2.size; have HB2 := Lib.hid hb2; have HN5 := Lib.hid (newsAt (W := w2) rfl (blankC bk bn) 44); clear hb2)
            | (at_builtin; go_must (refine wpList_append_own _ rfl _ _ 22 rfl w1.heap.size 44 i0 _ 8 72 Tryd.underlying22 hi0 hz0 hz1 hz2 rfl (by decide) (.slice Ao j co) j ol rfl (HOWN.out _ (belA HB2.out _)) ⟨w2.heap.size, 0, none⟩ 1 1 (encC (blankC bk bn)) rfl rfl HN5.out (encC_one (blankC bk bn)) (by unfold maxLen; omega) (by omega) (by simp; omega) ?_; intro v5 w5 hown5 hgrow5 _; have HZ := Lib.hid (HEND.out _ _ _ (belA HB2.out _) hown5 hgrow5); clear hown5 hgrow5)))
          obtain ⟨A5, c5, e5⟩ := own_form8 HZ.out.1
          subst e5
          go_roundw
          case rel => exact ⟨j + 1, _, rfl, by omega, hlt2, Lib.hid ⟨_, _, rfl⟩, Lib.hid HZ.out.1, Lib.hid HZ.out.2⟩
          case measure => simp; omega
        · obtain rfl : j = i := by omega
          have HRO := Lib.hid (RC.of_own HO.out (by rw [List.length_take]; have := HTL.out; omega))
          rw [List.take_of_length_le (by have := HTL.out; omega)] at HRO
          have HBW := Lib.hid (bel0 (bel0 HB0.out HB1.out) HB.out)
          clear HO
          go_wp2_with (go_at_call 13; (with_reducible refine (HE.out T _ _ _ HTL.out HRO.out).mono ?_); rintro e w6 ⟨v, rfl, ho, hb⟩; have HO6 := Lib.hid ho; have HB6 := Lib.hid hb; clear ho hb)
          go_ret
          exact ⟨_, rfl, HO6.out.lower HBW.out.size, bel0 HBW.out HB6.out⟩
end Go.Proofs.YtoiekhjmfoodiaaDoor
