/- Fields of a payload: plain; the walks of find, from, field. -/
import Derived.Test.YtkkhlmilcdlfoaaDoorXg
import Derived.Lib.CutLaws
import Derived.Lib.IndexBytes
namespace Go.Proofs.YtkkhlmilcdlfoaaDoor
open Go.RowKit

/-- What stands behind the first semicolon. -/
def cut1 (r : List UInt8) : Option (List UInt8) := (r.idxOf? 59).map fun j => r.drop (j + 1)
/-- What stands ahead of it; all, if there is none. -/
def fld1 (r : List UInt8) : List UInt8 := match r.idxOf? 59 with
  | some j => r.take j
  | none => r
/-- The payload from field n on. -/
def fromL (l : List UInt8) : Nat → Option (List UInt8)
  | 0 => some l
  | n + 1 => (fromL l n).bind cut1
theorem fromL_none {l : List UInt8} {k : Nat} (h : fromL l k = none) : ∀ n, k ≤ n → fromL l n = none
  | 0, hn => by
    obtain rfl : k = 0 := by omega
    exact h
  | n + 1, hn => by
    rcases (by omega : k ≤ n ∨ k = n + 1) with h1 | rfl
    · show (fromL l n).bind cut1 = none
      rw [fromL_none h n h1]; rfl
    · exact h
theorem cut1_len {r t : List UInt8} (h : cut1 r = some t) : t.length ≤ r.length := by
  unfold cut1 at h
  obtain ⟨j, _, rfl⟩ := Option.map_eq_some_iff.1 h
  rw [List.length_drop]
  omega
theorem fromL_len {l : List UInt8} : ∀ {n : Nat} {t : List UInt8}, fromL l n = some t → t.length ≤ l.length
  | 0, t, h => by
    obtain rfl := Option.some.inj h
    exact Nat.le_refl _
  | n + 1, t, h => by
    obtain ⟨r, h1, h2⟩ := Option.bind_eq_some_iff.1 h
    exact Nat.le_trans (cut1_len h2) (fromL_len h1)
theorem fld1_len (r : List UInt8) : (fld1 r).length ≤ r.length := by
  unfold fld1
  split
  · rw [List.length_take]; omega
  · exact Nat.le_refl _
theorem cut_semi (r : List UInt8) : Lib.cut r [59] = (fld1 r, (cut1 r).getD [], (cut1 r).isSome) := by
  unfold Lib.cut fld1 cut1
  cases h : r.idxOf? 59 with
  | none =>
    have h1 : Lib.index r [59] = -1 := by rw [Lib.index_one]; exact idx_none h
    rw [h1, if_neg (by decide)]
    rfl
  | some j =>
    have h1 : Lib.index r [59] = j := by rw [Lib.index_one]; exact (idx_some h).1
    rw [h1, if_pos (by omega)]
    rfl
/-- MaxLen's cell is there. -/
def ML (w : World) : Prop := ∃ m, w.cell? ⟨2, 0, none⟩ = some (.int .i64 m)
theorem ML.past {w w' : World} (h : ML w) (hb : Below w.heap.size w w') : ML w' := by
  obtain ⟨m, h⟩ := h
  exact ⟨m, (hb.cell (p := ⟨2, 0, none⟩) (Lib.lt_of_cell h)).trans h⟩
theorem below_drewN {w W : World} (h : Below w.heap.size w W) (n : Nat) : Below w.heap.size w (W.drewN n) := ⟨h.os, h.tape, h.output, h.size, h.block⟩
theorem cut_any (r : List UInt8) (hl : r.length ≤ 1000000) (w : World) (hM : ML w) :
    Calls Tryd.prog 42 #[.string (bsB r), .string ⟨#[59]⟩] w fun e w' => e = .returned (.tuple #[.string (bsB (fld1 r)), .string (bsB ((cut1 r).getD [])), .bool (cut1 r).isSome]) ∧ Below w.heap.size w w' := by
  obtain ⟨m, hm⟩ := hM
  have h := Tryd.strings_Cut (bsB r) ⟨#[59]⟩ m w (by rw [bsB_size]; omega) hm
  rw [show Lib.cut (bsB r).data.toList (ByteArray.mk #[59]).data.toList = (fld1 r, (cut1 r).getD [], (cut1 r).isSome) from cut_semi r] at h
  exact h.mono fun e w' ⟨h1, n, h2⟩ => ⟨h1, by rw [h2]; exact below_drewN (Below.refl _ _) n⟩
set_option maxRecDepth 100000 in
theorem is_any (i n : Nat) (P : Nat) (w : World) (h : w.cell? ⟨P, 0, none⟩ = some (.int .i64 n)) : Calls Tryd.prog 58 #[.int .i64 i, .pointer (some ⟨P, 0, none⟩)] w fun e w' => e = .returned (.bool (decide (i = n))) ∧ w' = w := by
  have e : ((i : Int) == (n : Int)) = decide (i = n) := by
    rw [Bool.eq_iff_iff]
    simp
    omega
  generalize decide (i = n) = b at *
  go_enter Tryd.func58, Tryd.ntmps58
  go_wp2
  go_ret
  exact ⟨rfl, rfl⟩
set_option maxRecDepth 100000 in
set_option maxHeartbeats 2000000 in
theorem find_any (l : List UInt8) (hl : l.length ≤ 1000000) (n : Nat) (P : Nat) (w : World) (hM : ML w) (h : w.cell? ⟨P, 0, none⟩ = some (.int .i64 n)) (hn : n ≤ 1000) :
    Calls Tryd.prog 57 #[.agg #[.string (bsB l)], .func (.func 58) #[] #[.pointer (some ⟨P, 0, none⟩)]] w fun e w' => e = .returned (.tuple #[.string (bsB ((fromL l n).getD [])), .bool (fromL l n).isSome]) ∧ Below w.heap.size w w' := by
  have hbw : Below w.heap.size w (w.alloc (.cells #[.string (bsB l)] 34)) := belA (Below.refl _ _) _
  have HB0 := Lib.hid hbw
  have HM := Lib.hid hM
  have HP := Lib.hid h
  have HL := Lib.hid hl
  have hlt := Lib.lt_of_cell h
  obtain ⟨r1, hr1⟩ : ∃ r, r = bsB ((fromL l n).getD []) := ⟨_, rfl⟩
  obtain ⟨r2, hr2⟩ : ∃ r, r = (fromL l n).isSome := ⟨_, rfl⟩
  rw [← hr1, ← hr2]
  replace hr1 := Lib.hid hr1
  replace hr2 := Lib.hid hr2
  have HST : Hid (bsB l = bsB ((fromL l 0).getD [])) := Lib.hid rfl
  clear hbw hM h hl
  generalize hbl : bsB l = t0 at *
  clear hbl
  go_enter Tryd.func57, Tryd.ntmps57
  go_wp2
  go_loopw [6, 7, 8] (fun q6 q7 q wr => ∃ k : Nat, q = .int .i64 k ∧ k ≤ n ∧ q6 = .string (bsB ((fromL l k).getD [])) ∧ q7 = .bool (fromL l k).isSome ∧ Hid (Below w.heap.size w wr)) (fun _ _ q _ => n - (intOf q).toNat)
  case atStart => exact ⟨0, rfl, Nat.zero_le _, by rw [HST.out], rfl, HB0⟩
  case round =>
    obtain ⟨k, rfl, hk, rfl, rfl, HB⟩ := hrel
    cases hf : fromL l k with
    | none =>
      have HR1 : Hid (r1 = bsB []) := Lib.hid (by rw [hr1.out, fromL_none hf n hk]; rfl)
      have HR2 : Hid (r2 = false) := Lib.hid (by rw [hr2.out, fromL_none hf n hk]; rfl)
      clear hr1 hr2 hf HST
      show Code.wp _ _ _ ⟨#[_, _, _, _, _, _, .string (bsB []), .bool false, _, _, _, _, _, _, _, _, _, _, _, _, _, _, _, _, _, _, _, _], _⟩ _
      generalize bsB [] = t1 at *
      go_wp2
      go_ret2
      exact ⟨by rw [HR1.out, HR2.out]; rfl, HB.out⟩
    | some t =>
      show Code.wp _ _ _ ⟨#[_, _, _, _, _, _, .string (bsB t), .bool true, _, _, _, _, _, _, _, _, _, _, _, _, _, _, _, _, _, _, _, _], _⟩ _
      have htl : t.length ≤ 1000000 := Nat.le_trans (fromL_len hf) HL.out
      have HC := Lib.hid (cut_any t htl wr (HM.out.past HB.out))
      have hpc : wr.cell? ⟨P, 0, none⟩ = some (.int .i64 n) := (HB.out.cell (p := ⟨P, 0, none⟩) hlt).trans HP.out
      have HI := Lib.hid (is_any k n P wr hpc)
      clear hpc
      by_cases hkn : k = n
      · have HR1 : Hid (r1 = bsB t) := Lib.hid (by rw [hr1.out, ← hkn, hf]; rfl)
        have HR2 : Hid (r2 = true) := Lib.hid (by rw [hr2.out, ← hkn, hf]; rfl)
        rw [decide_eq_true hkn] at HI
        clear hr1 hr2 hf HST hkn HC
        generalize bsB t = t1 at *
        go_wp2_with (go_at_call 58; (with_reducible refine (HI.out).mono ?_); rintro e w8 ⟨rfl, rfl⟩)
        go_ret2
        exact ⟨by rw [HR1.out, HR2.out]; rfl, HB.out⟩
      · have HS : Hid (fromL l (k + 1) = cut1 t) := Lib.hid (by show (fromL l k).bind cut1 = _; rw [hf]; rfl)
        rw [decide_eq_false hkn] at HI
        have hkn2 : k + 1 ≤ n := by omega
        clear hf HST hkn
        generalize bsB t = t1 at *
        generalize bsB (fld1 t) = t2 at *
        generalize hc : bsB ((cut1 t).getD []) = t3 at *
        generalize hd : (cut1 t).isSome = b3 at *
        replace hc := Lib.hid hc
        replace hd := Lib.hid hd
        go_wp2_with (first
          | (go_at_call 58; (with_reducible refine (HI.out).mono ?_); rintro e w8 ⟨rfl, rfl⟩)
          | (go_at_call 42; (with_reducible refine (HC.out).mono ?_); rintro e w9 ⟨rfl, hb⟩; have HB9 := Lib.hid (bel0 HB.out hb); clear hb))
        go_roundw
        case rel => exact ⟨k + 1, by go_num, hkn2, by rw [HS.out, hc.out], by rw [HS.out, hd.out], HB9⟩
        case measure => simp [intOf]; omega
set_option maxRecDepth 100000 in
set_option maxHeartbeats 2000000 in
theorem from_any (l : List UInt8) (hl : l.length ≤ 1000000) (n : Nat) (hn : n ≤ 1000) (w : World) (hM : ML w) :
    Calls Tryd.prog 41 #[.agg #[.string (bsB l)], .int .i64 n] w fun e w' => e = .returned (.tuple #[.string (bsB ((fromL l n).getD [])), .bool (fromL l n).isSome]) ∧ Below w.heap.size w w' := by
  have hb1 : Below w.heap.size w ((w.alloc (.cells #[.string (bsB l)] 34)).alloc (.cells #[.int .i64 n] 3)) := belA (belA (Below.refl _ _) _) _
  have hc : ((w.alloc (.cells #[.string (bsB l)] 34)).alloc (.cells #[.int .i64 n] 3)).cell? ⟨w.heap.size + 1, 0, none⟩ = some (.int .i64 n) := cell_of_row _ _ 0 _ _ _ (heap_alloc2_new w _ _)
  have HF := Lib.hid (find_any l hl n (w.heap.size + 1) _ (hM.past hb1) hc hn)
  have HB1 := Lib.hid hb1
  clear hb1 hc hM hl
  generalize bsB ((fromL l n).getD []) = t1 at *
  generalize (fromL l n).isSome = b1 at *
  generalize bsB l = t at *
  go_enter Tryd.func41, Tryd.ntmps41
  go_wp2_with (go_at_call 57; (with_reducible refine (HF.out).mono ?_); rintro e w1 ⟨rfl, hb⟩; have HB2 := Lib.hid (bel0 HB1.out hb); clear hb)
  go_ret2
  exact ⟨rfl, HB2.out⟩
set_option maxRecDepth 100000 in
set_option maxHeartbeats 2000000 in
theorem field_any (l : List UInt8) (hl : l.length ≤ 1000000) (n : Nat) (hn : n ≤ 1000) (w : World) (hM : ML w) :
    Calls Tryd.prog 20 #[.agg #[.string (bsB l)], .int .i64 n] w fun e w' => e = .returned (.tuple #[.string (bsB (fld1 ((fromL l n).getD []))), .bool (fromL l n).isSome]) ∧ Below w.heap.size w w' := by
  have hb1 : Below w.heap.size w (w.alloc (.cells #[.string (bsB l)] 34)) := belA (Below.refl _ _) _
  have HF := Lib.hid (from_any l hl n hn _ (hM.past hb1))
  have htl : ((fromL l n).getD []).length ≤ 1000000 := by
    cases h : fromL l n with
    | none => exact Nat.zero_le _
    | some t => exact Nat.le_trans (fromL_len h) hl
  have HC := Lib.hid fun (W : World) (h : Below w.heap.size w W) => cut_any ((fromL l n).getD []) htl W (hM.past h)
  have HB1 := Lib.hid hb1
  clear hb1 hM hl htl
  generalize (fromL l n).isSome = b1 at *
  generalize (fromL l n).getD [] = r at *
  generalize bsB (fld1 r) = t2 at *
  generalize bsB r = t1 at *
  generalize bsB l = t at *
  generalize bsB ((cut1 r).getD []) = t3 at *
  generalize (cut1 r).isSome = b3 at *
  go_enter Tryd.func20, Tryd.ntmps20
  go_wp2_with (first
    | (go_at_call 41; (with_reducible refine (HF.out).mono ?_); rintro e w1 ⟨rfl, hb⟩; have HB2 := Lib.hid (bel0 HB1.out hb); clear hb)
    | (go_at_call 42; (with_reducible refine (HC.out _ HB2.out).mono ?_); rintro e w9 ⟨rfl, hb⟩; have HB9 := Lib.hid (bel0 HB2.out hb); clear hb))
  go_ret2
  exact ⟨rfl, HB9.out⟩
end Go.Proofs.YtkkhlmilcdlfoaaDoor
