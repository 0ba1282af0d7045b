/- The walks of Find; the law FoldFinds. -/
import Derived.Test.YtnnmliblnmijdaaD4
namespace Go.Proofs.Ytnnmliblnmijdaa
open Go.RowKit

def Near (x : T3) : Prop := x.1 ≤ 1099511627776 ∧ 0 < x.2.2 ∧ x.2.2 ≤ 1099511627776
def hidesP (x : T3) (row : Int) : Prop := x.2.1 ≠ 0 ∧ Near x ∧ x.1 ≤ row ∧ row < x.1 + x.2.2
def isP (x : T3) (row : Int) : Prop := (x.2.1 = 0 ∧ x.1 = row) ∨ hidesP x row
instance (x : T3) : Decidable (Near x) := by unfold Near; infer_instance
instance (x : T3) (row : Int) : Decidable (hidesP x row) := by unfold hidesP; infer_instance
instance (x : T3) (row : Int) : Decidable (isP x row) := by unfold isP; infer_instance
theorem bool_as {p : Prop} [Decidable p] {b : Bool} (h : b = true ↔ p) : Ending.returned (.bool b) = Ending.returned (.bool (decide p)) := by
  congr 2
  rw [Bool.eq_iff_iff, h, decide_eq_true_iff]
set_option maxRecDepth 100000 in
set_option maxHeartbeats 4000000 in
theorem hides_any (a b c row : Int) (ha : -9223372036854775808 ≤ a) (w : World) :
    Calls Try.prog 23 #[.agg #[.int .i64 a, .int .u64 b, .int .i64 c], .int .i64 row] w fun e w' => e = .returned (.bool (decide (hidesP (a, b, c) row))) ∧ Below w.heap.size w w' := by
  have HB := Lib.hid (belA (Below.refl w.heap.size w) (.cells #[.int .i64 a, .int .u64 b, .int .i64 c] 40))
  have HD : Hid (hidesP (a, b, c) row ↔ (b ≠ 0 ∧ Near (a, b, c) ∧ a ≤ row ∧ row < a + c)) := Lib.hid Iff.rfl
  have HNR : Hid (Near (a, b, c) ↔ (a ≤ 1099511627776 ∧ 0 < c ∧ c ≤ 1099511627776)) := Lib.hid Iff.rfl
  have HAS : Hid (∀ v : Bool, (v = true ↔ hidesP (a, b, c) row) → Ending.returned (.bool v) = Ending.returned (.bool (decide (hidesP (a, b, c) row)))) := Lib.hid fun v h => bool_as h
  by_cases hn : Near (a, b, c)
  · obtain ⟨h1, h2, h3⟩ := hn
    simp only at h1 h2 h3
    have HN3 : Hid (Near (a, b, c)) := Lib.hid ⟨h1, h2, h3⟩
    have hw : IntKind.i64.wrap (a + c) = a + c := IntWalk.i64_in _ (by omega)
    by_cases hb : b = 0
    · have hb1 : (b == 0) = true := by simpa using hb
      have hb2 : (b != 0) = false := by simpa using hb
      have HZ : Hid (¬ hidesP (a, b, c) row) := Lib.hid fun h => (HD.out.1 h).1 hb
      clear hb
      go_enter Try.func23, Try.ntmps23
      go_wp2
      go_ret
      exact ⟨HAS.out _ (by simp [HZ.out]), HB.out⟩
    · have hb1 : (b == 0) = false := by simpa using hb
      have hb2 : (b != 0) = true := by simpa using hb
      have HBN := Lib.hid hb
      clear hb
      by_cases h4 : a ≤ row
      · have HZ : Hid (hidesP (a, b, c) row ↔ row < a + c) := Lib.hid (HD.out.trans ⟨fun h => h.2.2.2, fun h => ⟨HBN.out, HN3.out, h4, h⟩⟩)
        go_enter Try.func23, Try.ntmps23
        go_wp2
        go_ret
        exact ⟨HAS.out _ (by rw [HZ.out]; simp), HB.out⟩
      · have HZ : Hid (¬ hidesP (a, b, c) row) := Lib.hid fun h => h4 (HD.out.1 h).2.2.1
        go_enter Try.func23, Try.ntmps23
        go_wp2
        go_ret
        exact ⟨HAS.out _ (by simp [HZ.out]; try omega), HB.out⟩
  · have HZ : Hid (¬ hidesP (a, b, c) row) := Lib.hid fun h => hn (HD.out.1 h).2.1
    have HNN : Hid (¬ (a ≤ 1099511627776 ∧ 0 < c ∧ c ≤ 1099511627776)) := Lib.hid fun h => hn (HNR.out.2 h)
    clear hn
    by_cases hb : b = 0
    · have hb1 : (b == 0) = true := by simpa using hb
      have hb2 : (b != 0) = false := by simpa using hb
      clear hb
      go_enter Try.func23, Try.ntmps23
      go_wp2
      all_goals go_ret
      all_goals exact ⟨HAS.out _ (by simp [HZ.out]), HB.out⟩
    · have hb1 : (b == 0) = false := by simpa using hb
      have hb2 : (b != 0) = true := by simpa using hb
      clear hb
      by_cases h1 : a ≤ 1099511627776
      · by_cases h2 : 0 < c
        · have h3 : ¬ c ≤ 1099511627776 := fun h => HNN.out ⟨h1, h2, h⟩
          go_enter Try.func23, Try.ntmps23
          go_wp2
          go_ret
          exact ⟨HAS.out _ (by simp [HZ.out]), HB.out⟩
        · go_enter Try.func23, Try.ntmps23
          go_wp2
          go_ret
          exact ⟨HAS.out _ (by simp [HZ.out]), HB.out⟩
      · go_enter Try.func23, Try.ntmps23
        go_wp2
        go_ret
        exact ⟨HAS.out _ (by simp [HZ.out]), HB.out⟩
theorem box_keep {w w1 : World} {Q : Nat} {o : Obj} (hb : Below w.heap.size w w1) (h : w.heap[Q]? = some o) : w1.heap[Q]? = some o := (hb.block Q (Array.getElem?_eq_some_iff.1 h).1).trans h
set_option maxRecDepth 100000 in
set_option maxHeartbeats 4000000 in
theorem find1_any (a b c row : Int) (ha : -9223372036854775808 ≤ a) (Q : Nat) (w : World) (hQ : w.heap[Q]? = some (.cells #[.int .i64 row] 3 (0, 0))) :
    Calls Try.prog 22 #[.agg #[.int .i64 a, .int .u64 b, .int .i64 c], .pointer (some ⟨Q, 0, none⟩)] w fun e w' => e = .returned (.bool (decide (isP (a, b, c) row))) ∧ Below w.heap.size w w' := by
  have hq := (Array.getElem?_eq_some_iff.1 hQ).1
  have c0 := cell_of_row _ _ 0 _ _ _ hQ
  have HB := Lib.hid (belA (Below.refl w.heap.size w) (.cells #[.int .i64 a, .int .u64 b, .int .i64 c] 40))
  have HH := Lib.hid (fun W => hides_any a b c row ha W)
  have HAS : Hid (∀ v : Bool, (v = true ↔ isP (a, b, c) row) → Ending.returned (.bool v) = Ending.returned (.bool (decide (isP (a, b, c) row)))) := Lib.hid fun v h => bool_as h
  have HD : Hid (isP (a, b, c) row ↔ ((b = 0 ∧ a = row) ∨ hidesP (a, b, c) row)) := Lib.hid Iff.rfl
  clear hQ ha
  by_cases hb : b = 0 ∧ a = row
  · obtain ⟨h1, h2⟩ := hb
    have HZ : Hid (isP (a, b, c) row) := Lib.hid (HD.out.2 (.inl ⟨h1, h2⟩))
    have hb1 : (b == 0) = true := by simpa using h1
    have hb2 : (a == row) = true := by simpa using h2
    clear h1 h2 HH
    go_enter Try.func22, Try.ntmps22
    go_wp2
    go_ret
    exact ⟨HAS.out _ (by simp [HZ.out]), HB.out⟩
  · have HZ : Hid (isP (a, b, c) row ↔ hidesP (a, b, c) row) := Lib.hid (HD.out.trans ⟨fun h => h.resolve_left hb, .inr⟩)
    obtain ⟨hv, hhv⟩ : ∃ v, v = decide (hidesP (a, b, c) row) := ⟨_, rfl⟩
    have HV : Hid (hv = true ↔ isP (a, b, c) row) := Lib.hid (by rw [hhv, HZ.out]; exact decide_eq_true_iff)
    rw [← hhv] at HH
    clear hhv
    by_cases h1 : b = 0
    · have hb1 : (b == 0) = true := by simpa using h1
      have hb2 : (a == row) = false := by simpa using fun h => hb ⟨h1, h⟩
      clear h1 hb
      go_enter Try.func22, Try.ntmps22
      go_wp2_with (go_at_call 23; (with_reducible refine (HH.out _).mono ?_); rintro e w1 ⟨rfl, hb⟩; have HB1 := Lib.hid (bel0 HB.out hb); clear hb)
      go_ret
      exact ⟨HAS.out _ HV.out, HB1.out⟩
    · have hb1 : (b == 0) = false := by simpa using h1
      clear h1 hb
      go_enter Try.func22, Try.ntmps22
      go_wp2_with (go_at_call 23; (with_reducible refine (HH.out _).mono ?_); rintro e w1 ⟨rfl, hb⟩; have HB1 := Lib.hid (bel0 HB.out hb); clear hb)
      go_ret
      exact ⟨HAS.out _ HV.out, HB1.out⟩
set_option maxRecDepth 100000 in
set_option maxHeartbeats 4000000 in
theorem index_any (Q : Nat) (row : Int) (A : Option Addr) (L : List T3) (m c : Nat) (hm : m = L.length) (hl : m ≤ 1000000) (hin : ∀ x ∈ L, -9223372036854775808 ≤ x.1) (w : World) (h : RK encI 3 w A L) (hQ : w.heap[Q]? = some (.cells #[.int .i64 row] 3 (0, 0))) (r : Nat) (z : Int) (hr : r ≤ m) (hlo : ∀ i, i < r → ¬ isP (Nth L i) row) (hhi : r < m → isP (Nth L r) row ∧ z = r) (hz : r = m → z = -1) :
    Calls Try.prog 21 #[.slice A m c, .func (.func 22) #[] #[.pointer (some ⟨Q, 0, none⟩)]] w fun e w' => e = .returned (.int .i64 z) ∧ Below w.heap.size w w' := by
  have HR := Lib.hid h
  have HN := Lib.hid hm
  have HLO := Lib.hid hlo
  have HHI := Lib.hid hhi
  have HZ := Lib.hid hz
  have HQ := Lib.hid hQ
  have HIN := Lib.hid hin
  clear h hm hlo hhi hz hQ hin
  go_enter Try.func21, Try.ntmps21
  go_wp2
  go_loopw [8] (fun q wr => ∃ i : Nat, q = .int .i64 i ∧ i ≤ r ∧ Hid (Below w.heap.size w wr)) (fun q _ => m - (intOf q).toNat)
  case atStart => exact ⟨0, rfl, Nat.zero_le _, Lib.hid (Below.refl _ _)⟩
  case round =>
    obtain ⟨i, rfl, hi, HB⟩ := hrel
    by_cases hlt : i < m
    · have hki : (i : Int) < m := by omega
      obtain ⟨b, off, rfl, hG⟩ := HR.out.it (fun e => by have := HN.out; rw [e] at this; simp at this; omega)
      obtain ⟨G0, GA⟩ := hG _ HB.out
      obtain ⟨a0, a1, a2⟩ := GA i (by have := HN.out; omega)
      have HT := Lib.hid (find1_any (Nth L i).1 (Nth L i).2.1 (Nth L i).2.2 row (HIN.out _ (nth_mem (by have := HN.out; omega))) Q wr (box_keep HB.out HQ.out))
      clear hG GA
      by_cases hir : i = r
      · subst hir
        obtain ⟨hq, rfl⟩ := HHI.out hlt
        have HT2 := HT.out
        rw [decide_eq_true (p := isP ((Nth L i).1, (Nth L i).2.1, (Nth L i).2.2) row) hq] at HT2
        have HT := Lib.hid HT2
        clear hq HT2 HLO HHI HZ
        generalize Nth L i = x at *
        go_wp2_with (go_at_call 22; (with_reducible refine (HT.out).mono ?_); rintro e w1 ⟨rfl, hb⟩; have HB1 := Lib.hid (bel0 HB.out hb); clear hb)
        go_ret
        exact ⟨rfl, HB1.out⟩
      · have hq := HLO.out i (by omega)
        have HT2 := HT.out
        rw [decide_eq_false (p := isP ((Nth L i).1, (Nth L i).2.1, (Nth L i).2.2) row) hq] at HT2
        have HT := Lib.hid HT2
        clear hq HT2
        generalize Nth L i = x at *
        go_wp2_with (go_at_call 22; (with_reducible refine (HT.out).mono ?_); rintro e w1 ⟨rfl, hb⟩; have HB1 := Lib.hid (bel0 HB.out hb); clear hb)
        go_roundw
        case rel => exact ⟨i + 1, by go_num, by omega, HB1⟩
        case measure => simp [intOf]; omega
    · obtain rfl : i = m := by omega
      obtain rfl : r = i := by omega
      have hz1 := HZ.out rfl
      subst hz1
      clear HLO HHI HZ
      go_wp2
      go_ret
      exact ⟨rfl, HB.out⟩
/-- The first item that is a row, or hides it, or how many there are. -/
theorem first_at (row : Int) (L : List T3) : ∃ r, r ≤ L.length ∧ (∀ i, i < r → ¬ isP (Nth L i) row) ∧ (r < L.length → isP (Nth L r) row) := by
  refine ⟨L.findIdx fun x => decide (isP x row), List.findIdx_le_length, fun i hi => ?_, fun hr => ?_⟩
  · have h1 : i < L.length := Nat.lt_of_lt_of_le hi List.findIdx_le_length
    have h2 := List.not_of_lt_findIdx hi
    unfold Nth
    rw [List.getElem?_eq_getElem h1]
    simpa using h2
  · have h2 := List.findIdx_getElem (w := hr)
    unfold Nth
    rw [List.getElem?_eq_getElem hr]
    simpa using h2
set_option maxRecDepth 100000 in
set_option maxHeartbeats 4000000 in
theorem find_any (A : Option Addr) (L : List T3) (m c : Nat) (hm : m = L.length) (hl : m ≤ 1000000) (hin : ∀ x ∈ L, -9223372036854775808 ≤ x.1) (row : Int) (r : Nat) (hr : r ≤ m) (hlo : ∀ i, i < r → ¬ isP (Nth L i) row) (hhi : r < m → isP (Nth L r) row) (w : World) (h : RK encI 3 w A L) :
    Calls Try.prog 16 #[.slice A m c, .int .i64 row] w fun e w' => e = .returned (.tuple #[.int .i64 (if r < m then (r : Int) else 0), .bool (decide (r < m))]) ∧ Below w.heap.size w w' := by
  have HI : Hid (Calls Try.prog 21 #[.slice A m c, .func (.func 22) #[] #[.pointer (some ⟨w.heap.size, 0, none⟩)]] (w.alloc (.cells #[.int .i64 row] 3)) fun e w' => e = .returned (.int .i64 (if r < m then (r : Int) else -1)) ∧ Below w.heap.size w w') := Lib.hid <|
    (index_any w.heap.size row A L m c hm hl hin _ (h.past (belA (Below.refl _ _) _)) (heap_alloc_new w _) r _ hr hlo (fun h => ⟨hhi h, if_pos h⟩) (fun h => if_neg (by omega))).mono fun e w' h => ⟨h.1, bel1 (Below.refl _ _) h.2⟩
  clear h hm hlo hhi hin
  by_cases hrm : r < m
  · rw [if_pos hrm] at HI
    rw [if_pos hrm, decide_eq_true hrm]
    have hz : ¬ (r : Int) < 0 := by omega
    clear hrm
    go_enter Try.func16, Try.ntmps16
    go_wp2_with (go_at_call 21; (with_reducible refine HI.out.mono ?_); rintro e w1 ⟨rfl, hb⟩; have HB1 := Lib.hid hb; clear hb)
    go_ret2
    exact ⟨rfl, HB1.out⟩
  · rw [if_neg hrm] at HI
    rw [if_neg hrm, decide_eq_false hrm]
    clear hrm
    go_enter Try.func16, Try.ntmps16
    go_wp2_with (go_at_call 21; (with_reducible refine HI.out.mono ?_); rintro e w1 ⟨rfl, hb⟩; have HB1 := Lib.hid hb; clear hb)
    go_ret2
    exact ⟨rfl, HB1.out⟩

end Go.Proofs.Ytnnmliblnmijdaa
