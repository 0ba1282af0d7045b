/- Point's two closures; slices.IndexFunc and slices.ContainsFunc at places. -/
import Derived.Test.YtnkdbpbfapdfeaaDc
import Derived.Test.YtnkdbpbfapdfeaaFf
namespace Go.Proofs.Ytnkdbpbfapdfeaa
open Go.RowKit

theorem OR.rpl {w : World} {v : Value} {L : List (Int × Int)} {A : Option Addr} {n c : Nat} (h : OR w v L.length (plC L)) (hv : v = .slice A n c) : RPl w w.heap.size A L := fun hne => by
  rcases h.2 with ⟨_, h0⟩ | ⟨g, off, cap, cur, e, hh, _, _, _, hr⟩
  · exact absurd (List.eq_nil_of_length_eq_zero h0) hne
  · rw [hv] at e
    injection e with e1 _ _
    refine ⟨g, off, e1, (Array.getElem?_eq_some_iff.1 hh).1, fun k hk => ⟨hr _ _ (plC_at L k hk).1, ?_⟩⟩
    have := hr _ _ (plC_at L k hk).2
    rwa [← Nat.add_assoc] at this
theorem Try.box_keep {w w1 : World} {Q : Nat} {o : Obj} (hb : Below w.heap.size w w1) (h : w.heap[Q]? = some o) : w1.heap[Q]? = some o := (hb.block Q (Array.getElem?_eq_some_iff.1 h).1).trans h
set_option maxRecDepth 100000 in
set_option maxHeartbeats 2000000 in
theorem shift1_any (Q : Nat) (k a n r c : Int) (w : World) (hQ : w.heap[Q]? = some (.cells #[.int .i64 k, .int .i64 a, .int .i64 n] 32 (0, 0))) :
    Calls Try.prog 40 #[.agg #[.int .i64 r, .int .i64 c], .pointer (some ⟨Q, 0, none⟩)] w fun e w' => e = .returned (.bool (lostB r c k a n)) ∧ Below w.heap.size w w' := by
  have HL := Lib.hid (lost_as r c k a n _ rfl)
  generalize lostB r c k a n = b at *
  have hq := (Array.getElem?_eq_some_iff.1 hQ).1
  have c0 := cell_of_row _ _ 0 _ _ _ hQ
  have c1 := cell_of_row _ _ 1 _ _ _ hQ
  have c2 := cell_of_row _ _ 2 _ _ _ hQ
  clear hQ
  go_enter Try.func40, Try.ntmps40
  go_wp2_with (go_at_call 41; (with_reducible refine (HL.out _).mono ?_); rintro e w1 ⟨rfl, hb⟩; have HB1 := Lib.hid (bel0 (belA (Below.refl w.heap.size w) _) hb); clear hb)
  go_ret
  exact ⟨rfl, HB1.out⟩
set_option maxRecDepth 100000 in
set_option maxHeartbeats 2000000 in
theorem put1_any (r c : Int) (w : World) :
    Calls Try.prog 30 #[.agg #[.int .i64 r, .int .i64 c]] w fun e w' => e = .returned (.bool (!okP r c)) ∧ Below w.heap.size w w' := by
  have HL := Lib.hid (isRight_any r c)
  generalize okP r c = b at *
  go_enter Try.func30, Try.ntmps30
  go_wp2_with (go_at_call 31; (with_reducible refine (HL.out _).mono ?_); rintro e w1 ⟨rfl, hb⟩; have HB1 := Lib.hid (bel0 (belA (Below.refl w.heap.size w) _) hb); clear hb)
  go_ret
  exact ⟨rfl, HB1.out⟩
set_option maxRecDepth 100000 in
set_option maxHeartbeats 4000000 in
theorem indexLost_any (Q : Nat) (k a n : Int) (A : Option Addr) (L : List (Int × Int)) (m c : Nat) (hm : m = L.length) (hl : m ≤ 1000000) (w : World) (h : RPl w w.heap.size A L) (hQ : w.heap[Q]? = some (.cells #[.int .i64 k, .int .i64 a, .int .i64 n] 32 (0, 0))) (r : Nat) (z : Int) (hr : r ≤ m) (hlo : ∀ i, i < r → lostB (At L i).1 (At L i).2 k a n = false) (hhi : r < m → lostB (At L r).1 (At L r).2 k a n = true ∧ z = r) (hz : r = m → z = -1) :
    Calls Try.prog 49 #[.slice A m c, .func (.func 40) #[] #[.pointer (some ⟨Q, 0, none⟩)]] w fun e w' => e = .returned (.int .i64 z) ∧ Below w.heap.size w w' := by
  have HR := Lib.hid h
  have HN := Lib.hid hm
  have HLO := Lib.hid hlo
  have HHI := Lib.hid hhi
  have HZ := Lib.hid hz
  have HQ := Lib.hid hQ
  clear hQ
  clear h hm hlo hhi hz
  go_enter Try.func49, Try.ntmps49
  go_wp2
  go_loopw [8] (fun q wr => ∃ i : Nat, q = .int .i64 i ∧ i ≤ r ∧ Hid (Below w.heap.size w wr)) (fun q _ => m - (intOf q).toNat)
  case atStart => exact ⟨0, rfl, Nat.zero_le _, Lib.hid (Below.refl _ _)⟩
  case round =>
    obtain ⟨i, rfl, hi, HB⟩ := hrel
    by_cases hlt : i < m
    · have hki : (i : Int) < m := by omega
      obtain ⟨b, off, rfl, hG⟩ := HR.out.at (fun e => by have := HN.out; rw [e] at this; simp at this; omega)
      obtain ⟨G0, GA⟩ := hG _ HB.out
      obtain ⟨a0, a1⟩ := GA i (by have := HN.out; omega)
      have HT := Lib.hid (shift1_any Q k a n (At L i).1 (At L i).2 wr (Try.box_keep HB.out HQ.out))
      clear hG GA
      by_cases hir : i = r
      · subst hir
        obtain ⟨hq, rfl⟩ := HHI.out hlt
        have HT2 := HT.out
        rw [hq] at HT2
        have HT := Lib.hid HT2
        clear hq HT2 HLO HHI HZ
        generalize At L i = x at *
        go_wp2_with (go_at_call 40; (with_reducible refine (HT.out).mono ?_); rintro e w1 ⟨rfl, hb⟩; have HB1 := Lib.hid (bel0 HB.out hb); clear hb)
        go_ret
        exact ⟨rfl, HB1.out⟩
      · have hq := HLO.out i (by omega)
        have HT2 := HT.out
        rw [hq] at HT2
        have HT := Lib.hid HT2
        clear hq HT2
        generalize At L i = x at *
        go_wp2_with (go_at_call 40; (with_reducible refine (HT.out).mono ?_); rintro e w1 ⟨rfl, hb⟩; have HB1 := Lib.hid (bel0 HB.out hb); clear hb)
        go_roundw
        case rel => exact ⟨i + 1, by go_num, by omega, HB1⟩
        case measure => simp [intOf]; omega
    · obtain rfl : i = m := by omega
      obtain rfl : r = i := by omega
      have hz1 := HZ.out rfl
      subst hz1
      clear HLO HHI HZ
      go_wp2
      go_ret
      exact ⟨rfl, HB.out⟩
set_option maxRecDepth 100000 in
set_option maxHeartbeats 4000000 in
theorem indexWrong_any (A : Option Addr) (L : List (Int × Int)) (m c : Nat) (hm : m = L.length) (hl : m ≤ 1000000) (w : World) (h : RPl w w.heap.size A L) (r : Nat) (z : Int) (hr : r ≤ m) (hlo : ∀ i, i < r → (!okP (At L i).1 (At L i).2) = false) (hhi : r < m → (!okP (At L r).1 (At L r).2) = true ∧ z = r) (hz : r = m → z = -1) :
    Calls Try.prog 49 #[.slice A m c, .func (.func 30) #[] #[]] w fun e w' => e = .returned (.int .i64 z) ∧ Below w.heap.size w w' := by
  have HR := Lib.hid h
  have HN := Lib.hid hm
  have HLO := Lib.hid hlo
  have HHI := Lib.hid hhi
  have HZ := Lib.hid hz
  skip
  clear h hm hlo hhi hz
  go_enter Try.func49, Try.ntmps49
  go_wp2
  go_loopw [8] (fun q wr => ∃ i : Nat, q = .int .i64 i ∧ i ≤ r ∧ Hid (Below w.heap.size w wr)) (fun q _ => m - (intOf q).toNat)
  case atStart => exact ⟨0, rfl, Nat.zero_le _, Lib.hid (Below.refl _ _)⟩
  case round =>
    obtain ⟨i, rfl, hi, HB⟩ := hrel
    by_cases hlt : i < m
    · have hki : (i : Int) < m := by omega
      obtain ⟨b, off, rfl, hG⟩ := HR.out.at (fun e => by have := HN.out; rw [e] at this; simp at this; omega)
      obtain ⟨G0, GA⟩ := hG _ HB.out
      obtain ⟨a0, a1⟩ := GA i (by have := HN.out; omega)
      have HT := Lib.hid (put1_any (At L i).1 (At L i).2 wr)
      clear hG GA
      by_cases hir : i = r
      · subst hir
        obtain ⟨hq, rfl⟩ := HHI.out hlt
        have HT2 := HT.out
        rw [hq] at HT2
        have HT := Lib.hid HT2
        clear hq HT2 HLO HHI HZ
        generalize At L i = x at *
        go_wp2_with (go_at_call 30; (with_reducible refine (HT.out).mono ?_); rintro e w1 ⟨rfl, hb⟩; have HB1 := Lib.hid (bel0 HB.out hb); clear hb)
        go_ret
        exact ⟨rfl, HB1.out⟩
      · have hq := HLO.out i (by omega)
        have HT2 := HT.out
        rw [hq] at HT2
        have HT := Lib.hid HT2
        clear hq HT2
        generalize At L i = x at *
        go_wp2_with (go_at_call 30; (with_reducible refine (HT.out).mono ?_); rintro e w1 ⟨rfl, hb⟩; have HB1 := Lib.hid (bel0 HB.out hb); clear hb)
        go_roundw
        case rel => exact ⟨i + 1, by go_num, by omega, HB1⟩
        case measure => simp [intOf]; omega
    · obtain rfl : i = m := by omega
      obtain rfl : r = i := by omega
      have hz1 := HZ.out rfl
      subst hz1
      clear HLO HHI HZ
      go_wp2
      go_ret
      exact ⟨rfl, HB.out⟩
/-- The first place of a list that a test takes, or how many there are. -/
theorem firstP (p : Int × Int → Bool) (L : List (Int × Int)) : ∃ r, r ≤ L.length ∧ (∀ i, i < r → p (At L i) = false) ∧ (r < L.length → p (At L r) = true) := by
  refine ⟨L.findIdx p, List.findIdx_le_length, fun i hi => ?_, fun hr => ?_⟩
  · have hl : i < L.length := Nat.lt_of_lt_of_le hi List.findIdx_le_length
    have := List.not_of_lt_findIdx hi
    unfold At
    rw [List.getElem?_eq_getElem hl]
    simpa using this
  · have := List.findIdx_getElem (w := hr)
    unfold At
    rw [List.getElem?_eq_getElem hr]
    simpa using this
def allRight (L : List (Int × Int)) : Bool := L.all fun p => okP p.1 p.2
theorem allRight_of (L : List (Int × Int)) (h : ∀ i, i < L.length → (!okP (At L i).1 (At L i).2) = false) : allRight L = true := by
  refine List.all_eq_true.2 fun p hp => ?_
  obtain ⟨i, hi, rfl⟩ := List.getElem_of_mem hp
  have := h i hi
  unfold At at this
  rw [List.getElem?_eq_getElem hi] at this
  simpa using this
theorem allRight_not (L : List (Int × Int)) (i : Nat) (hi : i < L.length) (h : (!okP (At L i).1 (At L i).2) = true) : allRight L = false := by
  refine Bool.eq_false_iff.2 fun ha => ?_
  have := List.all_eq_true.1 ha L[i] (List.getElem_mem hi)
  unfold At at h
  rw [List.getElem?_eq_getElem hi] at h
  simp at h this
  rw [this] at h
  cases h
set_option maxRecDepth 100000 in
set_option maxHeartbeats 4000000 in
theorem containsWrong_any (A : Option Addr) (L : List (Int × Int)) (m c : Nat) (hm : m = L.length) (hl : m ≤ 1000000) (w : World) (h : RPl w w.heap.size A L) :
    Calls Try.prog 32 #[.slice A m c, .func (.func 30) #[] #[]] w fun e w' => e = .returned (.bool (!allRight L)) ∧ Below w.heap.size w w' := by
  obtain ⟨r, hr, hlo, hhi⟩ := firstP (fun p => !okP p.1 p.2) L
  subst hm
  by_cases hrl : r < L.length
  · have HI := Lib.hid (indexWrong_any A L L.length c rfl hl w h r r hr hlo (fun hh => ⟨hhi hh, rfl⟩) (fun e => by omega))
    have ha := allRight_not L r hrl (hhi hrl)
    rw [ha]
    have hge : (0 : Int) ≤ r := by omega
    clear h hlo hhi hrl ha
    go_enter Try.func32, Try.ntmps32
    go_wp2_with (go_at_call 49; (with_reducible refine (HI.out).mono ?_); rintro e w1 ⟨rfl, hb⟩; have HB := Lib.hid hb; clear hb)
    go_ret
    exact ⟨by simp <;> omega, HB.out⟩
  · obtain rfl : r = L.length := by omega
    have HI := Lib.hid (indexWrong_any A L L.length c rfl hl w h L.length (-1) hr hlo (fun hh => by omega) (fun _ => rfl))
    have ha := allRight_of L hlo
    rw [ha]
    clear h hlo hhi hrl ha
    go_enter Try.func32, Try.ntmps32
    go_wp2_with (go_at_call 49; (with_reducible refine (HI.out).mono ?_); rintro e w1 ⟨rfl, hb⟩; have HB := Lib.hid hb; clear hb)
    go_ret
    exact ⟨rfl, HB.out⟩
end Go.Proofs.Ytnkdbpbfapdfeaa
