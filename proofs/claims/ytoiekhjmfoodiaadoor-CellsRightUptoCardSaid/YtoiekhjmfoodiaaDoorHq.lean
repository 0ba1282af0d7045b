/- The document's Marks. -/
import Derived.Test.YtoiekhjmfoodiaaDoorZj
import Derived.Test.YtoiekhjmfoodiaaDoorHp
import Derived.Test.YtoiekhjmfoodiaaDoorHn
namespace Go.Proofs.YtoiekhjmfoodiaaDoor
open Go.RowKit

/-- Where all that is read are marks, their bytes are the bytes that were read. -/
theorem back_all : ∀ (n : Nat) (zs : List Nat), zs.length ≤ n → (∀ z ∈ zs, z < 256) → (∀ x ∈ allL zs, notMark x = false) → (allL zs).flatMap (fun (x : Nat) => putL (x : Int)) = zs
  | 0, zs, hn, _, _ => by
    have : zs = [] := List.length_eq_zero_iff.1 (by omega)
    subst this
    rfl
  | n + 1, zs, hn, h8, hm => by
    by_cases h0 : zs = []
    · subst h0
      rfl
    · have hst := all_step zs h8 h0
      rcases dec_some zs h8 h0 with e | ⟨h1, h2, h3, h4⟩
      · have ef : firstF zs = (65533, begF zs) := by
          unfold firstF
          rw [e, if_pos ⟨rfl, rfl⟩]
        have h5 := hm 65533 (by rw [hst, ef]; simp)
        exact absurd h5 (by decide)
      · have ef := first_is zs _ h3 h4
        obtain ⟨hs, hp⟩ := is_some h4
        have hb := (scalarB_bd hs).1
        rw [hst, ef] at hm ⊢
        rw [List.flatMap_cons]
        have ih := back_all n (zs.drop (decN zs).2) (by rw [List.length_drop]; omega) (fun z hz => h8 z (List.mem_of_mem_drop hz)) (fun x hx => hm x (List.mem_cons_of_mem _ hx))
        show putL (((numZ (zs.take (decN zs).2)).toNat : Nat) : Int) ++ _ = zs
        rw [Int.toNat_of_nonneg hb, hp, ih, List.take_append_drop]
def backS (al : List Nat) (i : Nat) : ByteArray := strL ((al.take i).flatMap fun (x : Nat) => putL (x : Int))
theorem backS_succ (al : List Nat) (i : Nat) (h : i < al.length) : backS al (i + 1) = backS al i ++ put7 ((al[i]?.getD 0 : Nat) : Int) := by
  unfold backS
  rw [List.take_succ_eq_append_getElem h, List.flatMap_append, strL_app, ← putL_put7, List.getElem?_eq_getElem h]
  simp
theorem backS_size (al : List Nat) : ∀ i, (backS al i).size ≤ 4 * i
  | 0 => by
    simp [backS, strL]
    rfl
  | i + 1 => by
    have ih := backS_size al i
    by_cases h : i < al.length
    · rw [backS_succ al i h, ByteArray.size_append]
      have := put7_size ((al[i]?.getD 0 : Nat) : Int)
      omega
    · have e : backS al (i + 1) = backS al i := by
        unfold backS
        rw [List.take_of_length_le (by omega), List.take_of_length_le (by omega)]
      rw [e]
      omega
set_option maxRecDepth 100000 in
set_option maxHeartbeats 4000000 in
theorem refMarks_any (m : ByteArray) (hs : m.size ≤ 1900000) (w : World) :
    Calls Tryd.prog 28 #[.string m] w fun e w' => e = .returned (.bool (marksB m)) ∧ Below w.heap.size w w' := by
  obtain ⟨c, W, hcv, h1, h2, h3, hb⟩ := conv_bytes' (bytesL m) (bytesL_lt m) (by rw [bytesL_len]; omega) w
  rw [strL_bytesL] at hcv
  have hlen := bytesL_len m
  have hal := allL_len (bytesL m)
  have HAN : Hid ((allL (bytesL m)).length ≤ 1900001) := Lib.hid (by omega)
  have HA : Hid (Calls Tryd.prog 57 #[.slice (some ⟨w.heap.size, 0, none⟩) (bytesL m).length c] W fun e w' => (∃ A k c, e = .returned (.slice A k c) ∧ k = (allL (bytesL m)).length ∧ RN w' A (allL (bytesL m))) ∧ Below w.heap.size w w') := Lib.hid ((refAll_all _ (bytesL m) _ c rfl (by omega) h1 h2 W h3).mono fun e w' ⟨v, he, ho, hb'⟩ => by
    obtain ⟨A, c, hv, hr⟩ := RN.of_own ho rfl
    exact ⟨⟨A, _, c, by rw [he, hv], rfl, hr⟩, bel0 hb hb'⟩)
  have HBK : Hid ((∀ x ∈ allL (bytesL m), notMark x = false) → backS (allL (bytesL m)) (allL (bytesL m)).length = m) := Lib.hid fun h => by
    unfold backS
    rw [List.take_of_length_le (Nat.le_refl _), back_all _ (bytesL m) (Nat.le_refl _) (bytesL_lt m) h, strL_bytesL]
  have HMB : Hid (marksB m = (decide (m.size ≤ 32) && !(allL (bytesL m)).any notMark)) := Lib.hid rfl
  have HPT := Lib.hid rput_any
  have HOF := Lib.hid refOf_any
  have HSZ := Lib.hid (backS_size (allL (bytesL m)))
  have hm32 : m.size ≤ 1900000 := hs
  clear h1 h2 h3 hb hlen hal hs
  generalize marksB m = mb at *
  generalize allL (bytesL m) = al at *
  generalize (bytesL m).length = bl at *
  go_enter Tryd.func28, Tryd.ntmps28
  go_wp2_with (go_at_call 57; (with_reducible refine (HA.out).mono ?_); rintro e w1 ⟨⟨A1, k1, c1, rfl, hk1, hr1⟩, hb1⟩; have HK1 := Lib.hid hk1; have HR1 := Lib.hid hr1; have HB1 := Lib.hid hb1; clear hk1 hr1 hb1)
  clear hcv HA
  go_loopw [4, 5] (fun bv q wr => ∃ i : Nat, q = .int .i64 i ∧ i ≤ k1 ∧ bv = .string (backS al i) ∧ Hid (∀ j, j < i → notMark (al[j]?.getD 0) = false) ∧ Hid (Below w1.heap.size w1 wr)) (fun _ q _ => k1 - (intOf q).toNat)
  case atStart => exact ⟨0, rfl, Nat.zero_le _, rfl, Lib.hid (fun j hj => by omega), Lib.hid (Below.refl _ _)⟩
  case round =>
    obtain ⟨i, rfl, hi, rfl, HJ, HB⟩ := hrel
    have hk19 : k1 ≤ 1900001 := by have := HK1.out; have := HAN.out; omega
    by_cases hlt : i < k1
    · have hik : (i : Int) < k1 := by omega
      have hia : i < al.length := by have := HK1.out; omega
      obtain ⟨b, off, rfl, hbl, hc⟩ := HR1.out (fun e => by rw [e] at hia; simp at hia)
      have c0 := (HB.out.cell (p := ⟨b, off + i, none⟩) hbl).trans (hc i hia)
      have HC0 : Hid (∀ W, Below wr.heap.size wr W → W.cell? ⟨b, off + i, none⟩ = some (.int .i32 ((al[i]?.getD 0 : Nat) : Int))) := Lib.hid fun W hW => (hW.cell (p := ⟨b, off + i, none⟩) (Nat.lt_of_lt_of_le hbl HB.out.size)).trans c0
      have HS := Lib.hid (backS_succ al i hia)
      have hsz := HSZ.out i
      have HOFr := Lib.hid (HOF.out ((al[i]?.getD 0 : Nat) : Int))
      have HPTr := Lib.hid (HPT.out ((al[i]?.getD 0 : Nat) : Int))
      have h4 := put7_size ((al[i]?.getD 0 : Nat) : Int)
      have hsum : ¬ (9223372036854775807 < (backS al i).size + (put7 ((al[i]?.getD 0 : Nat) : Int)).size) := by omega
      clear hc hsz h4
      cases hq : notMark (al[i]?.getD 0) with
      | true =>
        have hz : (ofZ ((al[i]?.getD 0 : Nat) : Int) == 0) = false := by
          unfold notMark at hq
          simpa using hq
        have hz' : (ofZ ((al[i]?.getD 0 : Nat) : Int) != 0) = true := by rw [bne, hz]; rfl
        have HF : Hid (mb = false) := Lib.hid (by
          rw [HMB.out, show al.any notMark = true from List.any_eq_true.2 ⟨_, List.getElem_mem hia, by rw [List.getElem?_eq_getElem hia] at hq; exact hq⟩]
          simp)
        clear hq HS HJ HPTr hsum
        generalize ofZ ((al[i]?.getD 0 : Nat) : Int) = z at *
        generalize ((al[i]?.getD 0 : Nat) : Int) = x at *
        go_wp2_with (go_at_call 27; (with_reducible refine (HOFr.out _).mono ?_); rintro e w2 ⟨rfl, hb2⟩; have HB2 := Lib.hid (bel0 HB1.out (bel0 HB.out hb2)); clear hb2)
        go_ret
        exact ⟨by rw [HF.out]; rfl, HB2.out⟩
      | false =>
        have hz : ofZ ((al[i]?.getD 0 : Nat) : Int) = 0 := by
          unfold notMark at hq
          simpa using hq
        rw [hz] at HOFr
        have HJ2 : Hid (∀ j, j < i + 1 → notMark (al[j]?.getD 0) = false) := Lib.hid fun j hj => by
          rcases (by omega : j < i ∨ j = i) with h | rfl
          · exact HJ.out j h
          · exact hq
        clear hq hz
        generalize put7 ((al[i]?.getD 0 : Nat) : Int) = pr at *
        generalize ((al[i]?.getD 0 : Nat) : Int) = x at *
        generalize backS al i = bk at *
        go_wp2_with (first
          | (go_at_call 27; (with_reducible refine (HOFr.out _).mono ?_); rintro e w2 ⟨rfl, hb2⟩; have c2 := HC0.out _ hb2; have HB2 := Lib.hid (bel0 HB.out hb2); clear hb2)
          | (go_at_call 34; (with_reducible refine (HPTr.out _).mono ?_); rintro e w3 ⟨⟨A3, k3, c3, rfl, hcv3⟩, hb3⟩; have HB3 := Lib.hid (bel0 HB2.out hb3); clear hb3))
        go_roundw
        case rel => exact ⟨i + 1, by go_num, hlt, by rw [HS.out], HJ2, HB3⟩
        case measure => simp [intOf]; omega
    · obtain rfl : i = k1 := by omega
      have hal : ∀ x ∈ al, notMark x = false := fun x hx => by
        obtain ⟨j, hj, e⟩ := List.getElem_of_mem hx
        have h1 := HJ.out j (by have := HK1.out; omega)
        rw [List.getElem?_eq_getElem hj] at h1
        rw [← e]
        exact h1
      have hbk := HBK.out hal
      rw [← HK1.out] at hbk
      rw [hbk]
      have HF : Hid (mb = decide (m.size ≤ 32)) := Lib.hid (by
        rw [HMB.out, show al.any notMark = false from List.any_eq_false.2 (fun x hx => by rw [hal x hx]; simp)]
        simp)
      have HBW := Lib.hid (bel0 HB1.out HB.out)
      clear hal hbk HJ
      by_cases h32 : m.size ≤ 32
      · have hd : decide ((m.size : Int) ≤ 32) = true := decide_eq_true (by omega)
        have hd' : decide (m.size ≤ 32) = true := decide_eq_true h32
        rw [hd'] at HF
        clear h32
        go_wp2
        go_ret
        exact ⟨by rw [HF.out]; rfl, HBW.out⟩
      · have hd : decide ((m.size : Int) ≤ 32) = false := decide_eq_false (by omega)
        have hd' : decide (m.size ≤ 32) = false := decide_eq_false h32
        rw [hd'] at HF
        clear h32
        go_wp2
        go_ret
        exact ⟨by rw [HF.out]; rfl, HBW.out⟩
end Go.Proofs.YtoiekhjmfoodiaaDoor

namespace Go.Proofs.YtoiekhjmfoodiaaDoor
open Go.RowKit

theorem wrong_zero {y : CC} (hr : y.r = 0) : wrongB y = (!(y.m.toList == []) || (y.h != 0 && y.h != 3)) := by
  unfold wrongB
  rw [if_pos hr]
/-- A cell of which the document says no. -/
theorem no_any {l : List CC} {i : Nat} (hi : i < l.length) (h : wrongB (Ac l i) = true) : anyC wrongB l = true := anyC_yes i hi h
theorem mend_h : ∀ (l : List CC) (k : Nat), (Ac (mendL l) k).h = 0 ∨ (Ac (mendL l) k).h = 1 ∨ (Ac (mendL l) k).h = 2 ∨ (Ac (mendL l) k).h = 3
  | [], k => .inl (by rw [show mendL [] = [] from rfl]; unfold Ac; rw [List.getElem?_nil]; rfl)
  | [x], k => by
    rw [show mendL [x] = [if x.h = 0 ∨ x.h = 3 then x else bare x] from rfl]
    match k with
    | 0 =>
      rw [Ac_nil]
      split
      · rename_i h
        rcases h with h | h
        · exact .inl h
        · exact .inr (.inr (.inr h))
      · exact .inl rfl
    | k + 1 =>
      left
      unfold Ac
      simp
      rfl
  | x :: y :: t, k => by
    rw [mendL_duo]
    split
    · rename_i hp
      match k with
      | 0 => exact .inr (.inl (pairB_left hp))
      | 1 =>
        have h := pairB_is hp
        exact .inr (.inr (.inl (by rw [Ac_one, Ac_nil, h])))
      | k + 2 => rw [Ac_one, Ac_one]; exact mend_h t k
    · match k with
      | 0 => rw [Ac_nil]; exact .inl (plain_h x)
      | k + 1 => rw [Ac_one]; exact mend_h (y :: t) k
theorem same_h {l : List CC} (h : sameC (mendL l) l = true) (k : Nat) (hk : k < l.length) : (Ac l k).h = 0 ∨ (Ac l k).h = 1 ∨ (Ac l k).h = 2 ∨ (Ac l k).h = 3 := by
  unfold sameC at h
  rw [Bool.and_eq_true, List.all_eq_true] at h
  have h1 := eqC_eq (h.2 k (List.mem_range.2 (by rw [mendL_len]; exact hk)))
  rw [← h1]
  exact mend_h l k
set_option maxRecDepth 100000 in
set_option maxHeartbeats 4000000 in
theorem refRight_any (A : Option Addr) (l : List CC) (n c : Nat) (hn : n = l.length) (hl : n ≤ 1000) (hm : ∀ k, k < l.length → (Ac l k).m.size ≤ 1900000) (w : World) (h : RC w w.heap.size A l) :
    Calls Tryd.prog 10 #[.slice A n c] w fun e w' => e = .returned (.bool (sameC (mendL l) l && !anyC wrongB l)) ∧ Below w.heap.size w w' := by
  have HME : Hid (Calls Tryd.prog 13 #[.slice A n c] w fun e w' => ∃ A' c', e = .returned (.slice A' n c') ∧ RC w' w'.heap.size A' (mendL l) ∧ Below w.heap.size w w') := Lib.hid ((refMend_any A l n c hn hl w h).mono fun e w' ⟨v, he, ho, hb⟩ => by
    obtain ⟨A', c', e', hr⟩ := ho.form
    exact ⟨A', c', by rw [he, e', mendL_len, hn], hr, hb⟩)
  have HSM : Hid (∀ W A' c', Below w.heap.size w W → RC W W.heap.size A' (mendL l) → Calls Tryd.prog 11 #[.slice A' n c', .slice A n c] W fun e w' => e = .returned (.bool (sameC (mendL l) l)) ∧ Below W.heap.size W w') := Lib.hid fun W A' c' hW hr => same7C_any A' A (mendL l) l n n c' c (by rw [mendL_len, hn]) hn (by omega) W hr (h.past hW)
  cases hs : sameC (mendL l) l with
  | false =>
    rw [hs] at HSM
    clear h hn hl hm hs
    generalize mendL l = M at *
    go_enter Tryd.func10, Tryd.ntmps10
    go_wp2_with (first
      | (go_at_call 13; (with_reducible refine (HME.out).mono ?_); rintro e w1 ⟨A1, c1, rfl, hr1, hb1⟩; have HR1 := Lib.hid hr1; have HB1 := Lib.hid hb1; clear hr1 hb1)
      | (go_at_call 11; (with_reducible refine (HSM.out _ _ _ HB1.out HR1.out).mono ?_); rintro e w2 ⟨rfl, hb2⟩; have HB2 := Lib.hid (bel0 HB1.out hb2); clear hb2))
    go_ret
    exact ⟨rfl, HB2.out⟩
  | true =>
    rw [hs] at HSM
    have HH := Lib.hid (fun k hk => same_h (l := l) hs k hk)
    have HR := Lib.hid h
    have HN := Lib.hid hn
    have HMS := Lib.hid hm
    have HOF := Lib.hid refOf_any
    clear h hn hm hs
    generalize mendL l = M at *
    go_enter Tryd.func10, Tryd.ntmps10
    go_wp2_with (first
      | (go_at_call 13; (with_reducible refine (HME.out).mono ?_); rintro e w1 ⟨A1, c1, rfl, hr1, hb1⟩; have HR1 := Lib.hid hr1; have HB1 := Lib.hid hb1; clear hr1 hb1)
      | (go_at_call 11; (with_reducible refine (HSM.out _ _ _ HB1.out HR1.out).mono ?_); rintro e w2 ⟨rfl, hb2⟩; have HB2 := Lib.hid (bel0 HB1.out hb2); clear hb2))
    go_loopw [3] (fun q wr => ∃ i : Nat, q = .int .i64 i ∧ i ≤ n ∧ Hid (∀ j, j < i → wrongB (Ac l j) = false) ∧ Hid (Below w.heap.size w wr)) (fun q _ => n - (intOf q).toNat)
    case atStart => exact ⟨0, rfl, Nat.zero_le _, Lib.hid (fun j hj => by omega), HB2⟩
    case round =>
      clear HB2 HB1 HR1
      obtain ⟨i, rfl, hi, HJ, HB⟩ := hrel
      by_cases hlt : i < n
      · have hin : (i : Int) < n := by omega
        have hil : i < l.length := by have := HN.out; omega
        obtain ⟨b, off, rfl, hat⟩ := HR.out.at (fun e => by rw [e] at hil; simp at hil)
        obtain ⟨a0, a1, a2, a3, a4, a5, a6, a7⟩ := (hat _ HB.out).2 i hil
        have hh := HH.out i hil
        have HNOF : Hid (wrongB (Ac l i) = true → anyC wrongB l = true) := Lib.hid (no_any hil)
        have HJF : Hid (wrongB (Ac l i) = false → ∀ j, j < i + 1 → wrongB (Ac l j) = false) := Lib.hid fun hw j hj => by
          rcases (by omega : j < i ∨ j = i) with h | rfl
          · exact HJ.out j h
          · exact hw
        have HOFr := Lib.hid (HOF.out (Ac l i).r)
        have HMKr : Hid (∀ W, Calls Tryd.prog 28 #[.string (Ac l i).m] W fun e w' => e = .returned (.bool (marksB (Ac l i).m)) ∧ Below W.heap.size W w') := Lib.hid fun W => refMarks_any _ (HMS.out i hil) W
        clear hat hil
        generalize Ac l i = y at *
        have hme : (y.m.toList == []) = true ∨ (y.m.toList == []) = false := by cases y.m.toList == [] <;> simp
        rcases hh with hh | hh | hh | hh
        · by_cases hr : y.r = 0
          · rcases hme with hme | hme
            · have HW : Hid (wrongB y = false) := Lib.hid (by rw [wrong_zero hr, hme, hh]; rfl)
              have HJ2 := Lib.hid (HJF.out HW.out)
              have hm2 : y.m.toList.isEmpty = true := by cases h : y.m.toList <;> simp_all
              rw [hr] at a0 HOFr
              rw [hh] at a2
              clear hh hr HNOF HJF HMKr HW
              go_wp2_with (go_at_call 27; (with_reducible refine (HOFr.out _).mono ?_); rintro e w2 ⟨rfl, hb2⟩; have hxb := (hb2.block wr.heap.size (by simp)).trans (heap_alloc_new wr (.cells #[.int .i32 0, .string y.m, .int .i64 0, .int .i64 y.fk, .int .i64 y.fn, .int .i64 y.bk, .int .i64 y.bn, .int .i64 y.fl] 44)); have x0 := cell_of_row _ _ 0 _ _ _ hxb; have x1 := cell_of_row _ _ 1 _ _ _ hxb; have x2 := cell_of_row _ _ 2 _ _ _ hxb; clear hxb; have HB2 := Lib.hid (bel0 HB.out (bel1 (Below.refl _ _) hb2)); clear hb2)
              go_roundw
              case rel => exact ⟨i + 1, by go_num, hlt, HJ2, HB2⟩
              case measure => simp [intOf]; omega
            · have HW : Hid (wrongB y = true) := Lib.hid (by rw [wrong_zero hr, hme]; rfl)
              have HNO := Lib.hid (HNOF.out HW.out)
              have hm2 : y.m.toList.isEmpty = false := by cases h : y.m.toList <;> simp_all
              rw [hr] at a0 HOFr
              rw [hh] at a2
              clear hh hr HNOF HJF HMKr HW
              go_wp2_with (go_at_call 27; (with_reducible refine (HOFr.out _).mono ?_); rintro e w2 ⟨rfl, hb2⟩; have hxb := (hb2.block wr.heap.size (by simp)).trans (heap_alloc_new wr (.cells #[.int .i32 0, .string y.m, .int .i64 0, .int .i64 y.fk, .int .i64 y.fn, .int .i64 y.bk, .int .i64 y.bn, .int .i64 y.fl] 44)); have x0 := cell_of_row _ _ 0 _ _ _ hxb; have x1 := cell_of_row _ _ 1 _ _ _ hxb; have x2 := cell_of_row _ _ 2 _ _ _ hxb; clear hxb; have HB2 := Lib.hid (bel0 HB.out (bel1 (Below.refl _ _) hb2)); clear hb2)
              go_ret
              exact ⟨by rw [HNO.out]; rfl, HB2.out⟩
          · have kr : (y.r == 0) = false := by simpa using hr
            have kr' : (y.r != 0) = true := by rw [bne, kr]; rfl
            cases hz : (ofZ y.r == 1) with
            | false =>
              have HW : Hid (wrongB y = true) := Lib.hid (by unfold wrongB; rw [if_neg hr, if_neg (by rw [hh]; decide), if_pos hh, bne, hz]; rfl)
              have HNO := Lib.hid (HNOF.out HW.out)
              rw [hh] at a2
              clear hh hr HNOF HJF HMKr HW hme
              generalize ofZ y.r = z at *
              go_wp2_with (go_at_call 27; (with_reducible refine (HOFr.out _).mono ?_); rintro e w2 ⟨rfl, hb2⟩; have hxb := (hb2.block wr.heap.size (by simp)).trans (heap_alloc_new wr (.cells #[.int .i32 y.r, .string y.m, .int .i64 0, .int .i64 y.fk, .int .i64 y.fn, .int .i64 y.bk, .int .i64 y.bn, .int .i64 y.fl] 44)); have x0 := cell_of_row _ _ 0 _ _ _ hxb; have x1 := cell_of_row _ _ 1 _ _ _ hxb; have x2 := cell_of_row _ _ 2 _ _ _ hxb; clear hxb; have HB2 := Lib.hid (bel0 HB.out (bel1 (Below.refl _ _) hb2)); clear hb2)
              go_ret
              exact ⟨by rw [HNO.out]; rfl, HB2.out⟩
            | true =>
              cases hq : marksB y.m with
              | true =>
                have HW : Hid (wrongB y = false) := Lib.hid (by unfold wrongB; rw [if_neg hr, if_neg (by rw [hh]; decide), if_pos hh, bne, hz, hq]; rfl)
                have HJ2 := Lib.hid (HJF.out HW.out)
                rw [hq] at HMKr
                rw [hh] at a2
                clear hh hr HNOF HJF HW hme hq
                generalize ofZ y.r = z at *
                go_wp2_with (first
                  | (go_at_call 27; (with_reducible refine (HOFr.out _).mono ?_); rintro e w2 ⟨rfl, hb2⟩; have hxb := (hb2.block wr.heap.size (by simp)).trans (heap_alloc_new wr (.cells #[.int .i32 y.r, .string y.m, .int .i64 0, .int .i64 y.fk, .int .i64 y.fn, .int .i64 y.bk, .int .i64 y.bn, .int .i64 y.fl] 44)); have x0 := cell_of_row _ _ 0 _ _ _ hxb; have x1 := cell_of_row _ _ 1 _ _ _ hxb; have x2 := cell_of_row _ _ 2 _ _ _ hxb; clear hxb; have HB2 := Lib.hid (bel0 HB.out (bel1 (Below.refl _ _) hb2)); clear hb2)
                  | (go_at_call 28; (with_reducible refine (HMKr.out _).mono ?_); rintro e w3 ⟨rfl, hb3⟩; have HB3 := Lib.hid (bel0 HB2.out hb3); clear hb3))
                go_roundw
                case rel => exact ⟨i + 1, by go_num, hlt, HJ2, HB3⟩
                case measure => simp [intOf]; omega
              | false =>
                have HW : Hid (wrongB y = true) := Lib.hid (by unfold wrongB; rw [if_neg hr, if_neg (by rw [hh]; decide), if_pos hh, bne, hz, hq]; rfl)
                have HNO := Lib.hid (HNOF.out HW.out)
                rw [hq] at HMKr
                rw [hh] at a2
                clear hh hr HNOF HJF HW hme hq
                generalize ofZ y.r = z at *
                go_wp2_with (first
                  | (go_at_call 27; (with_reducible refine (HOFr.out _).mono ?_); rintro e w2 ⟨rfl, hb2⟩; have hxb := (hb2.block wr.heap.size (by simp)).trans (heap_alloc_new wr (.cells #[.int .i32 y.r, .string y.m, .int .i64 0, .int .i64 y.fk, .int .i64 y.fn, .int .i64 y.bk, .int .i64 y.bn, .int .i64 y.fl] 44)); have x0 := cell_of_row _ _ 0 _ _ _ hxb; have x1 := cell_of_row _ _ 1 _ _ _ hxb; have x2 := cell_of_row _ _ 2 _ _ _ hxb; clear hxb; have HB2 := Lib.hid (bel0 HB.out (bel1 (Below.refl _ _) hb2)); clear hb2)
                  | (go_at_call 28; (with_reducible refine (HMKr.out _).mono ?_); rintro e w3 ⟨rfl, hb3⟩; have HB3 := Lib.hid (bel0 HB2.out hb3); clear hb3))
                go_ret
                exact ⟨by rw [HNO.out]; rfl, HB3.out⟩
        · cases hz : (ofZ y.r == 2) with
          | false =>
            have HW : Hid (wrongB y = true) := Lib.hid (by by_cases hr : y.r = 0; (· rw [wrong_zero hr, hh]; cases (y.m.toList == []) <;> rfl); (· unfold wrongB; rw [if_neg hr, if_neg (by rw [hh]; decide), if_neg (by rw [hh]; decide), bne, hz]; rfl))
            have HNO := Lib.hid (HNOF.out HW.out)
            rw [hh] at a2
            clear hh HNOF HJF HMKr HW hme
            generalize ofZ y.r = z at *
            go_wp2_with (go_at_call 27; (with_reducible refine (HOFr.out _).mono ?_); rintro e w2 ⟨rfl, hb2⟩; have hxb := (hb2.block wr.heap.size (by simp)).trans (heap_alloc_new wr (.cells #[.int .i32 y.r, .string y.m, .int .i64 1, .int .i64 y.fk, .int .i64 y.fn, .int .i64 y.bk, .int .i64 y.bn, .int .i64 y.fl] 44)); have x0 := cell_of_row _ _ 0 _ _ _ hxb; have x1 := cell_of_row _ _ 1 _ _ _ hxb; have x2 := cell_of_row _ _ 2 _ _ _ hxb; clear hxb; have HB2 := Lib.hid (bel0 HB.out (bel1 (Below.refl _ _) hb2)); clear hb2)
            go_ret
            exact ⟨by rw [HNO.out]; rfl, HB2.out⟩
          | true =>
            have hr : y.r ≠ 0 := ofZ_ne0 (.inr (by simpa using hz))
            cases hq : marksB y.m with
            | true =>
              have HW : Hid (wrongB y = false) := Lib.hid (by unfold wrongB; rw [if_neg hr, if_neg (by rw [hh]; decide), if_neg (by rw [hh]; decide), bne, hz, hq]; rfl)
              have HJ2 := Lib.hid (HJF.out HW.out)
              rw [hq] at HMKr
              rw [hh] at a2
              clear hh hr HNOF HJF HW hme hq
              generalize ofZ y.r = z at *
              go_wp2_with (first
                | (go_at_call 27; (with_reducible refine (HOFr.out _).mono ?_); rintro e w2 ⟨rfl, hb2⟩; have hxb := (hb2.block wr.heap.size (by simp)).trans (heap_alloc_new wr (.cells #[.int .i32 y.r, .string y.m, .int .i64 1, .int .i64 y.fk, .int .i64 y.fn, .int .i64 y.bk, .int .i64 y.bn, .int .i64 y.fl] 44)); have x0 := cell_of_row _ _ 0 _ _ _ hxb; have x1 := cell_of_row _ _ 1 _ _ _ hxb; have x2 := cell_of_row _ _ 2 _ _ _ hxb; clear hxb; have HB2 := Lib.hid (bel0 HB.out (bel1 (Below.refl _ _) hb2)); clear hb2)
                | (go_at_call 28; (with_reducible refine (HMKr.out _).mono ?_); rintro e w3 ⟨rfl, hb3⟩; have HB3 := Lib.hid (bel0 HB2.out hb3); clear hb3))
              go_roundw
              case rel => exact ⟨i + 1, by go_num, hlt, HJ2, HB3⟩
              case measure => simp [intOf]; omega
            | false =>
              have HW : Hid (wrongB y = true) := Lib.hid (by unfold wrongB; rw [if_neg hr, if_neg (by rw [hh]; decide), if_neg (by rw [hh]; decide), bne, hz, hq]; rfl)
              have HNO := Lib.hid (HNOF.out HW.out)
              rw [hq] at HMKr
              rw [hh] at a2
              clear hh hr HNOF HJF HW hme hq
              generalize ofZ y.r = z at *
              go_wp2_with (first
                | (go_at_call 27; (with_reducible refine (HOFr.out _).mono ?_); rintro e w2 ⟨rfl, hb2⟩; have hxb := (hb2.block wr.heap.size (by simp)).trans (heap_alloc_new wr (.cells #[.int .i32 y.r, .string y.m, .int .i64 1, .int .i64 y.fk, .int .i64 y.fn, .int .i64 y.bk, .int .i64 y.bn, .int .i64 y.fl] 44)); have x0 := cell_of_row _ _ 0 _ _ _ hxb; have x1 := cell_of_row _ _ 1 _ _ _ hxb; have x2 := cell_of_row _ _ 2 _ _ _ hxb; clear hxb; have HB2 := Lib.hid (bel0 HB.out (bel1 (Below.refl _ _) hb2)); clear hb2)
                | (go_at_call 28; (with_reducible refine (HMKr.out _).mono ?_); rintro e w3 ⟨rfl, hb3⟩; have HB3 := Lib.hid (bel0 HB2.out hb3); clear hb3))
              go_ret
              exact ⟨by rw [HNO.out]; rfl, HB3.out⟩
        · cases hz : (ofZ y.r == 2) with
          | false =>
            have HW : Hid (wrongB y = true) := Lib.hid (by by_cases hr : y.r = 0; (· rw [wrong_zero hr, hh]; cases (y.m.toList == []) <;> rfl); (· unfold wrongB; rw [if_neg hr, if_neg (by rw [hh]; decide), if_neg (by rw [hh]; decide), bne, hz]; rfl))
            have HNO := Lib.hid (HNOF.out HW.out)
            rw [hh] at a2
            clear hh HNOF HJF HMKr HW hme
            generalize ofZ y.r = z at *
            go_wp2_with (go_at_call 27; (with_reducible refine (HOFr.out _).mono ?_); rintro e w2 ⟨rfl, hb2⟩; have hxb := (hb2.block wr.heap.size (by simp)).trans (heap_alloc_new wr (.cells #[.int .i32 y.r, .string y.m, .int .i64 2, .int .i64 y.fk, .int .i64 y.fn, .int .i64 y.bk, .int .i64 y.bn, .int .i64 y.fl] 44)); have x0 := cell_of_row _ _ 0 _ _ _ hxb; have x1 := cell_of_row _ _ 1 _ _ _ hxb; have x2 := cell_of_row _ _ 2 _ _ _ hxb; clear hxb; have HB2 := Lib.hid (bel0 HB.out (bel1 (Below.refl _ _) hb2)); clear hb2)
            go_ret
            exact ⟨by rw [HNO.out]; rfl, HB2.out⟩
          | true =>
            have hr : y.r ≠ 0 := ofZ_ne0 (.inr (by simpa using hz))
            cases hq : marksB y.m with
            | true =>
              have HW : Hid (wrongB y = false) := Lib.hid (by unfold wrongB; rw [if_neg hr, if_neg (by rw [hh]; decide), if_neg (by rw [hh]; decide), bne, hz, hq]; rfl)
              have HJ2 := Lib.hid (HJF.out HW.out)
              rw [hq] at HMKr
              rw [hh] at a2
              clear hh hr HNOF HJF HW hme hq
              generalize ofZ y.r = z at *
              go_wp2_with (first
                | (go_at_call 27; (with_reducible refine (HOFr.out _).mono ?_); rintro e w2 ⟨rfl, hb2⟩; have hxb := (hb2.block wr.heap.size (by simp)).trans (heap_alloc_new wr (.cells #[.int .i32 y.r, .string y.m, .int .i64 2, .int .i64 y.fk, .int .i64 y.fn, .int .i64 y.bk, .int .i64 y.bn, .int .i64 y.fl] 44)); have x0 := cell_of_row _ _ 0 _ _ _ hxb; have x1 := cell_of_row _ _ 1 _ _ _ hxb; have x2 := cell_of_row _ _ 2 _ _ _ hxb; clear hxb; have HB2 := Lib.hid (bel0 HB.out (bel1 (Below.refl _ _) hb2)); clear hb2)
                | (go_at_call 28; (with_reducible refine (HMKr.out _).mono ?_); rintro e w3 ⟨rfl, hb3⟩; have HB3 := Lib.hid (bel0 HB2.out hb3); clear hb3))
              go_roundw
              case rel => exact ⟨i + 1, by go_num, hlt, HJ2, HB3⟩
              case measure => simp [intOf]; omega
            | false =>
              have HW : Hid (wrongB y = true) := Lib.hid (by unfold wrongB; rw [if_neg hr, if_neg (by rw [hh]; decide), if_neg (by rw [hh]; decide), bne, hz, hq]; rfl)
              have HNO := Lib.hid (HNOF.out HW.out)
              rw [hq] at HMKr
              rw [hh] at a2
              clear hh hr HNOF HJF HW hme hq
              generalize ofZ y.r = z at *
              go_wp2_with (first
                | (go_at_call 27; (with_reducible refine (HOFr.out _).mono ?_); rintro e w2 ⟨rfl, hb2⟩; have hxb := (hb2.block wr.heap.size (by simp)).trans (heap_alloc_new wr (.cells #[.int .i32 y.r, .string y.m, .int .i64 2, .int .i64 y.fk, .int .i64 y.fn, .int .i64 y.bk, .int .i64 y.bn, .int .i64 y.fl] 44)); have x0 := cell_of_row _ _ 0 _ _ _ hxb; have x1 := cell_of_row _ _ 1 _ _ _ hxb; have x2 := cell_of_row _ _ 2 _ _ _ hxb; clear hxb; have HB2 := Lib.hid (bel0 HB.out (bel1 (Below.refl _ _) hb2)); clear hb2)
                | (go_at_call 28; (with_reducible refine (HMKr.out _).mono ?_); rintro e w3 ⟨rfl, hb3⟩; have HB3 := Lib.hid (bel0 HB2.out hb3); clear hb3))
              go_ret
              exact ⟨by rw [HNO.out]; rfl, HB3.out⟩
        · by_cases hr : y.r = 0
          · rcases hme with hme | hme
            · have HW : Hid (wrongB y = false) := Lib.hid (by rw [wrong_zero hr, hme, hh]; rfl)
              have HJ2 := Lib.hid (HJF.out HW.out)
              have hm2 : y.m.toList.isEmpty = true := by cases h : y.m.toList <;> simp_all
              rw [hr] at a0 HOFr
              rw [hh] at a2
              clear hh hr HNOF HJF HMKr HW
              go_wp2_with (go_at_call 27; (with_reducible refine (HOFr.out _).mono ?_); rintro e w2 ⟨rfl, hb2⟩; have hxb := (hb2.block wr.heap.size (by simp)).trans (heap_alloc_new wr (.cells #[.int .i32 0, .string y.m, .int .i64 3, .int .i64 y.fk, .int .i64 y.fn, .int .i64 y.bk, .int .i64 y.bn, .int .i64 y.fl] 44)); have x0 := cell_of_row _ _ 0 _ _ _ hxb; have x1 := cell_of_row _ _ 1 _ _ _ hxb; have x2 := cell_of_row _ _ 2 _ _ _ hxb; clear hxb; have HB2 := Lib.hid (bel0 HB.out (bel1 (Below.refl _ _) hb2)); clear hb2)
              go_roundw
              case rel => exact ⟨i + 1, by go_num, hlt, HJ2, HB2⟩
              case measure => simp [intOf]; omega
            · have HW : Hid (wrongB y = true) := Lib.hid (by rw [wrong_zero hr, hme]; rfl)
              have HNO := Lib.hid (HNOF.out HW.out)
              have hm2 : y.m.toList.isEmpty = false := by cases h : y.m.toList <;> simp_all
              rw [hr] at a0 HOFr
              rw [hh] at a2
              clear hh hr HNOF HJF HMKr HW
              go_wp2_with (go_at_call 27; (with_reducible refine (HOFr.out _).mono ?_); rintro e w2 ⟨rfl, hb2⟩; have hxb := (hb2.block wr.heap.size (by simp)).trans (heap_alloc_new wr (.cells #[.int .i32 0, .string y.m, .int .i64 3, .int .i64 y.fk, .int .i64 y.fn, .int .i64 y.bk, .int .i64 y.bn, .int .i64 y.fl] 44)); have x0 := cell_of_row _ _ 0 _ _ _ hxb; have x1 := cell_of_row _ _ 1 _ _ _ hxb; have x2 := cell_of_row _ _ 2 _ _ _ hxb; clear hxb; have HB2 := Lib.hid (bel0 HB.out (bel1 (Below.refl _ _) hb2)); clear hb2)
              go_ret
              exact ⟨by rw [HNO.out]; rfl, HB2.out⟩
          · have kr : (y.r == 0) = false := by simpa using hr
            have HW : Hid (wrongB y = true) := Lib.hid (by unfold wrongB; rw [if_neg hr, if_pos hh])
            have HNO := Lib.hid (HNOF.out HW.out)
            rw [hh] at a2
            clear hh hr HNOF HJF HMKr HW hme
            go_wp2_with (go_at_call 27; (with_reducible refine (HOFr.out _).mono ?_); rintro e w2 ⟨rfl, hb2⟩; have hxb := (hb2.block wr.heap.size (by simp)).trans (heap_alloc_new wr (.cells #[.int .i32 y.r, .string y.m, .int .i64 3, .int .i64 y.fk, .int .i64 y.fn, .int .i64 y.bk, .int .i64 y.bn, .int .i64 y.fl] 44)); have x0 := cell_of_row _ _ 0 _ _ _ hxb; have x1 := cell_of_row _ _ 1 _ _ _ hxb; have x2 := cell_of_row _ _ 2 _ _ _ hxb; clear hxb; have HB2 := Lib.hid (bel0 HB.out (bel1 (Below.refl _ _) hb2)); clear hb2)
            go_ret
            exact ⟨by rw [HNO.out]; rfl, HB2.out⟩
      · obtain rfl : i = n := by omega
        have hno : anyC wrongB l = false := anyC_no fun k hk => HJ.out k (by have := HN.out; omega)
        have HNO2 := Lib.hid hno
        clear hno HJ
        go_wp2
        go_ret
        exact ⟨by rw [HNO2.out]; rfl, HB.out⟩
end Go.Proofs.YtoiekhjmfoodiaaDoor

namespace Go.Proofs.YtoiekhjmfoodiaaDoor
open Go.RowKit

set_option maxRecDepth 100000 in
set_option maxHeartbeats 4000000 in
theorem right_law (A : Option Addr) (l : List CC) (n c : Nat) (hn : n = l.length) (hc : n ≤ c) (hm : ∀ k, k < l.length → (Ac l k).m.size ≤ 1100000) (w : World) (hG : GT w) (h : RC w w.heap.size A l) : Calls Tryd.prog 3 #[.slice A n c] w fun e w' => e = .returned (.bool true) ∧ Below w.heap.size w w' := by
  have HAW : Hid (∀ W, Below w.heap.size w W → Calls Tryd.prog 8 #[] W fun e w' => e = .returned (.bool true) ∧ Below W.heap.size W w') := Lib.hid fun W hW => awake_any W (hG.below hW).wt
  by_cases hn2 : 200 < n
  · have hd : decide ((200 : Int) < (n : Int)) = true := decide_eq_true (by omega)
    have hd' : decide (200 < n) = true := decide_eq_true hn2
    have HAr := Lib.hid (HAW.out w (Below.refl _ _))
    clear hn2 hn h hG HAW hm hc
    go_enter Tryd.func3, Tryd.ntmps3
    go_wp2_with (go_at_call 8; (with_reducible refine (HAr.out).mono ?_); rintro e w5 ⟨rfl, hb⟩; have HB5 := Lib.hid hb; clear hb)
    go_ret
    exact ⟨rfl, HB5.out⟩
  have hd : decide ((200 : Int) < (n : Int)) = false := decide_eq_false (by omega)
  have hd' : decide (200 < n) = false := decide_eq_false hn2
  have hfew : fewMarks l := fun k hk => by
    have h1 := put7_size (Ac l k).r
    have h2 := hm k hk
    omega
  have HR1 : Hid (∀ W, Below w.heap.size w W → Calls Tryd.prog 9 #[.slice A n c] W fun e w' => e = .returned (.bool (sameC (mendL l) l && !anyC wrongB l)) ∧ Below W.heap.size W w') := Lib.hid fun W hW => rightRow_any A l n c hn (by omega) W (hG.below hW) (h.past hW)
  have HR2 : Hid (∀ W, Below w.heap.size w W → Calls Tryd.prog 10 #[.slice A n c] W fun e w' => e = .returned (.bool (sameC (mendL l) l && !anyC wrongB l)) ∧ Below W.heap.size W w') := Lib.hid fun W hW => refRight_any A l n c hn (by omega) (fun k hk => by have := hm k hk; omega) W (h.past hW)
  have HM1 : Hid (∀ W, Below w.heap.size w W → Calls Tryd.prog 12 #[.slice A n c] W fun e w' => (∃ A' c', e = .returned (.slice A' n c') ∧ RC w' w'.heap.size A' (mendL l)) ∧ Below W.heap.size W w') := Lib.hid fun W hW => (mend_any A l n c hn (by omega) W (h.past hW)).mono fun e w' ⟨v, he, ho, hb⟩ => by
    obtain ⟨A', c', e', hr⟩ := ho.form
    exact ⟨⟨A', c', by rw [he, e', mendL_len, hn], hr⟩, hb⟩
  have HM2 : Hid (∀ W, Below w.heap.size w W → Calls Tryd.prog 13 #[.slice A n c] W fun e w' => (∃ A' c', e = .returned (.slice A' n c') ∧ RC w' w'.heap.size A' (mendL l)) ∧ Below W.heap.size W w') := Lib.hid fun W hW => (refMend_any A l n c hn (by omega) W (h.past hW)).mono fun e w' ⟨v, he, ho, hb⟩ => by
    obtain ⟨A', c', e', hr⟩ := ho.form
    exact ⟨⟨A', c', by rw [he, e', mendL_len, hn], hr⟩, hb⟩
  have HSM : Hid (∀ W A1 A2 c1 c2, RC W W.heap.size A1 (mendL l) → RC W W.heap.size A2 (mendL l) → Calls Tryd.prog 11 #[.slice A1 n c1, .slice A2 n c2] W fun e w' => e = .returned (.bool true) ∧ Below W.heap.size W w') := Lib.hid fun W A1 A2 c1 c2 h1 h2 => by
    have h3 := same7C_any A1 A2 (mendL l) (mendL l) n n c1 c2 (by rw [mendL_len, hn]) (by rw [mendL_len, hn]) (by omega) W h1 h2
    rwa [sameC_self] at h3
  have HU1 : Hid (∀ W, Below w.heap.size w W → Calls Tryd.prog 14 #[.slice A n c] W fun e w' => e = .returned (.int .i64 (usedL l)) ∧ Below W.heap.size W w') := Lib.hid fun W hW => used_any A l n c hn (by omega) W (h.past hW)
  have HU2 : Hid (∀ W, Below w.heap.size w W → Calls Tryd.prog 15 #[.slice A n c] W fun e w' => e = .returned (.int .i64 (usedL l)) ∧ Below W.heap.size W w') := Lib.hid fun W hW => refUsed_any A l n c hn (by omega) W (h.past hW)
  have HT1 : Hid (∀ W, Below w.heap.size w W → Calls Tryd.prog 16 #[.slice A n c] W fun e w' => e = .returned (.string (txtB l (usedL l))) ∧ Below W.heap.size W w') := Lib.hid fun W hW => by
    by_cases h0 : 0 < n
    · exact textRow_any A l n c hn h0 (by omega) hc hfew W (h.past hW)
    · have e : l = [] := List.eq_nil_of_length_eq_zero (by omega)
      obtain rfl : n = 0 := by omega
      subst e
      exact textRow_none A c W
  have HT2 : Hid (∀ W, Below w.heap.size w W → Calls Tryd.prog 17 #[.slice A n c] W fun e w' => e = .returned (.string (txtB l (usedL l))) ∧ Below W.heap.size W w') := Lib.hid fun W hW => refText_any A l n c hn (by omega) hfew W (h.past hW)
  have HB0 := Lib.hid (Below.refl w.heap.size w)
  clear hn2 hn h hG hm hc hfew
  generalize txtB l (usedL l) = tx at *
  generalize usedL l = us at *
  generalize mendL l = M at *
  generalize (sameC M l && !anyC wrongB l) = q at *
  cases q
  all_goals
    go_enter Tryd.func3, Tryd.ntmps3
    go_wp2_with (first
      | (go_at_call 9; (with_reducible refine (HR1.out _ HB0.out).mono ?_); rintro e w1 ⟨rfl, hb⟩; have Bw1 := Lib.hid (bel0 HB0.out hb); clear hb)
      | (go_at_call 10; (with_reducible refine (HR2.out _ Bw1.out).mono ?_); rintro e w2 ⟨rfl, hb⟩; have Bw2 := Lib.hid (bel0 Bw1.out hb); clear hb)
      | (go_at_call 12; (with_reducible refine (HM1.out _ Bw2.out).mono ?_); rintro e w3 ⟨⟨A3, c3, rfl, hr3⟩, hb⟩; have HR3 := Lib.hid hr3; have Bw3 := Lib.hid (bel0 Bw2.out hb); clear hb hr3)
      | (go_at_call 13; (with_reducible refine (HM2.out _ Bw3.out).mono ?_); rintro e w4 ⟨⟨A4, c4, rfl, hr4⟩, hb⟩; have HR4 := Lib.hid hr4; have HR34 := Lib.hid (HR3.out.past hb); have Bw4 := Lib.hid (bel0 Bw3.out hb); clear hb hr4)
      | (go_at_call 11; (with_reducible refine (HSM.out _ _ _ _ _ HR34.out HR4.out).mono ?_); rintro e w5 ⟨rfl, hb⟩; have Bw5 := Lib.hid (bel0 Bw4.out hb); clear hb)
      | (go_at_call 14; (with_reducible refine (HU1.out _ Bw5.out).mono ?_); rintro e w6 ⟨rfl, hb⟩; have Bw6 := Lib.hid (bel0 Bw5.out hb); clear hb)
      | (go_at_call 15; (with_reducible refine (HU2.out _ Bw6.out).mono ?_); rintro e w7 ⟨rfl, hb⟩; have Bw7 := Lib.hid (bel0 Bw6.out hb); clear hb)
      | (go_at_call 16; (with_reducible refine (HT1.out _ Bw7.out).mono ?_); rintro e w8 ⟨rfl, hb⟩; have Bw8 := Lib.hid (bel0 Bw7.out hb); clear hb)
      | (go_at_call 17; (with_reducible refine (HT2.out _ Bw8.out).mono ?_); rintro e w9 ⟨rfl, hb⟩; have Bw9 := Lib.hid (bel0 Bw8.out hb); clear hb)
      | (go_at_call 8; (with_reducible refine (HAW.out _ Bw9.out).mono ?_); rintro e w10 ⟨rfl, hb⟩; have Bw10 := Lib.hid (bel0 Bw9.out hb); clear hb))
    go_ret
    exact ⟨rfl, Bw10.out⟩
end Go.Proofs.YtoiekhjmfoodiaaDoor
