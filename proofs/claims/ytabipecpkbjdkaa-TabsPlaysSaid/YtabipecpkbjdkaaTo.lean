/- The walk of the law TabsGoes. -/
import Derived.Test.YtabipecpkbjdkaaTn
import Derived.Deep.RegionHeld3
namespace Go.Proofs.Ytabipecpkbjdkaa
open Go.RowKit

theorem mk_stops (c : Nat) (hc : c ≤ 1000) (W : World) : (Instr.makeSlice 30 (.int .i64 c) (.int .i64 c)).run Try.prog W = .ok (.slice (some ⟨W.heap.size, 0, none⟩) c c) (W.alloc (.cells (List.replicate c (Value.bool false)).toArray 4)) := by
  obtain ⟨i0, hi, hz0, hz1, hz2⟩ := info_parts Try.infoBool
  have h := run_make (P := Try.prog) W 30 4 i0 (.bool false) Try.underlying30 hi hz0 .i64 .i64 c c (by omega) (Int.le_refl _) (by rw [hz2]; omega) (by omega)
  rw [Int.toNat_natCast, hz1, Nat.mul_one] at h
  rw [h]
  congr 3
  apply Array.ext'
  rw [List.toList_toArray]
  exact toList_madeCells_one _ c
/-- The document's stops beside the program's: a row of their own. -/
structure MS (W : World) (B b : Nat) (v : Value) (l : List Bool) : Prop where
  own : BS W B v l
  ne : v.ownBlock ≠ some b
theorem MS.grown {W W' : World} {B b : Nat} {v : Value} {l : List Bool} (h : MS W B b v l) (hg : W.grownBy W' (some b)) : MS W' B b v l := ⟨h.own.kept hg (.inr h.ne), h.ne⟩
theorem MS.past {W W' : World} {B b : Nat} {v : Value} {l : List Bool} (h : MS W B b v l) (hb : Below W.heap.size W W') : MS W' B b v l := ⟨own_past h.own hb, h.ne⟩
theorem MS.made {W W' : World} {B b : Nat} {v : Value} {l : List Bool} (h : BS W' W.heap.size v l) (hb : b < W.heap.size) (hB : B ≤ W.heap.size) : MS W' B b v l :=
  ⟨own_mono h hB, fun e => by
    have := (World.ownsRow.lt h b e).1
    omega⟩
theorem goes_made (W : World) (L0 : List Value) (d b : Nat) (hL : L0 = List.replicate (2 + d) (Value.bool false)) (hd : d ≤ 998) (hb : b < W.heap.size) (B : Nat) (hB : B ≤ W.heap.size) :
    MS (W.alloc (.cells L0.toArray 4)) B b (.slice (some ⟨W.heap.size, 0, none⟩) (2 + d) (2 + d)) (List.replicate (2 + d) false) := by
  refine MS.made (W := W) ?_ hb hB
  have := World.ownsRow_lit (e := 4) (size := 1) W L0.toArray (2 + d) (Nat.le_refl _) (by unfold maxLen; omega) (by simp [hL])
  unfold BS
  rw [List.length_replicate, List.map_replicate, ← hL]
  simpa using this
theorem goes_round {W w3 w4 : World} {B s b : Nat} {v2 : Value} (hB : B ≤ W.heap.size) (hb : B ≤ b) {w : World} (HW : Below B w W) {L' : List Bool}
    (h3 : SS w3 s b L') (hg3 : W.grownBy w3 (some b)) (hv : BS w4 w3.heap.size v2 L') (hb4 : Below w3.heap.size w3 w4) : SS w4 s b L' ∧ MS w4 B b v2 L' ∧ Below B w w4 :=
  ⟨h3.past hb4, MS.made hv h3.ltb (Nat.le_trans hB hg3.size), (HW.grown hg3 hB (fun j e => by cases e; exact hb)).trans (hb4.mono (Nat.le_trans hB hg3.size))⟩

theorem rb_past {w w' : World} {A : Option Addr} {xs : List Bool} (h : RB w w.heap.size A xs) (hb : Below w.heap.size w w') : RB w' w'.heap.size A xs := fun hn => by
  obtain ⟨b, e, hlt, hc⟩ := h.below hb hn
  exact ⟨b, e, Nat.lt_of_lt_of_le hlt hb.size, hc⟩
theorem goes_step {wr W W' : World} {g : Nat} {x m : Int} (h : (W.cell? ⟨g, 0, none⟩ = some (.int .i64 x) ∧ W.cell? ⟨g, 1, none⟩ = some (.int .i64 m)) ∧ g < W.heap.size ∧ Below wr.heap.size wr W) (hb : Below W.heap.size W W') :
    (W'.cell? ⟨g, 0, none⟩ = some (.int .i64 x) ∧ W'.cell? ⟨g, 1, none⟩ = some (.int .i64 m)) ∧ g < W'.heap.size ∧ Below wr.heap.size wr W' :=
  ⟨⟨(hb.cell (p := ⟨g, 0, none⟩) h.2.1).trans h.1.1, (hb.cell (p := ⟨g, 1, none⟩) h.2.1).trans h.1.2⟩, Nat.lt_of_lt_of_le h.2.1 hb.size, bel0 h.2.2 hb⟩

theorem goes_below {wr W : World} {g : Nat} {x m : Int} (h : (W.cell? ⟨g, 0, none⟩ = some (.int .i64 x) ∧ W.cell? ⟨g, 1, none⟩ = some (.int .i64 m)) ∧ g < W.heap.size ∧ Below wr.heap.size wr W) : Below wr.heap.size wr W := h.2.2

set_option maxRecDepth 100000 in
set_option maxHeartbeats 8000000 in
theorem tabsGoes_law (cols x m : Int) (A : Option Addr) (xs : List Nat) (n cp : Nat) (hn : n = xs.length) (hc0 : 0 ≤ cols) (hc1 : cols ≤ 65535) (hm : m ≤ 9223372036854775807) (w : World) (hR : RU w w.heap.size A xs) :
    Calls Try.prog 4 #[.int .u16 cols, .slice A n cp, .agg #[.int .i64 x, .int .i64 m]] w fun e w' => e = .returned (.bool true) ∧ Below w.heap.size w w' := by
  by_cases h60 : (60 : Int) < n
  · clear hn hR
    go_enter Try.func4, Try.ntmps4
    go_wp2_with (go_at_call 8; (with_reducible refine (awake_any _).mono ?_); rintro e w0 ⟨rfl, hb0⟩)
    go_ret
    exact ⟨rfl, bel1 (Below.refl _ w) hb0⟩
  · have hn60 : (n : Int) ≤ 60 := by omega
    obtain ⟨d, hd⟩ : ∃ d : Nat, cols % 999 = d := ⟨(cols % 999).toNat, by omega⟩
    have hd9 : d ≤ 998 := by omega
    obtain ⟨l, hl⟩ : ∃ l, l = resL [] (2 + d) := ⟨_, rfl⟩
    have HLEN : Hid (l.length = 2 + d) := Lib.hid (by rw [hl, resL_len])
    have HNEW := Lib.hid (fun W => new_l d hd9 l hl W)
    obtain ⟨L0, hL0⟩ : ∃ L0, L0 = List.replicate (2 + d) (Value.bool false) := ⟨_, rfl⟩
    have HL0 := Lib.hid hL0
    have hmk : ∀ W : World, (Instr.makeSlice 30 (.int .i64 (2 + (d : Int))) (.int .i64 (2 + (d : Int)))).run Try.prog W = .ok (.slice (some ⟨W.heap.size, 0, none⟩) (2 + d) (2 + d)) (W.alloc (.cells L0.toArray 4)) := fun W => by
      have := mk_stops (2 + d) (by omega) W
      rw [show ((2 + d : Nat) : Int) = 2 + (d : Int) by omega, ← hL0] at this
      exact this
    have HNONE : Hid (∀ s b W, SS W s b l → Calls Try.prog 14 #[.pointer (some ⟨s, 0, none⟩)] W (SetPost s b (List.replicate (2 + d) false) W)) := Lib.hid fun s b W h => by
      have := none_any s b l W h
      rw [HLEN.out] at this
      exact this
    have HR := Lib.hid hR
    have HN := Lib.hid hn
    have hdn : decide (60 < (n : Int)) = false := decide_eq_false (by omega)
    clear hl hR hn h60 hL0
    go_enter Try.func4, Try.ntmps4
    go_wp2_with (first
      | (go_at_call 8; (with_reducible refine (awake_any _).mono ?_); rintro e w0 ⟨rfl, hb0⟩; have HB0 := Lib.hid hb0; clear hb0)
      | (go_at_call 9; (with_reducible refine (HNEW.out _).mono ?_); rintro e w1 ⟨s, b, rfl, hS, hs, hb, hB⟩; have HS1 := Lib.hid hS; have HB1 := Lib.hid (bel0 HB0.out hB); have HBB := Lib.hid (Nat.le_trans HB0.out.size hb); clear hS hs hb hB)
      | (go_at_call 14; (with_reducible refine (HNONE.out s b _ HS1.out).mono ?_); rintro e w2 ⟨rfl, h2, hg2⟩; have HS2 := Lib.hid h2; have HB2 := Lib.hid (HB1.out.grown hg2 HB1.out.size (fun j e => by cases e; exact HBB.out)); clear h2 hg2))
    have HM2 := Lib.hid (goes_made w2 L0 d b HL0.out hd9 HS2.out.ltb (w.alloc (.cells #[.int .i64 x, .int .i64 m] 43)).heap.size (HB2.out.size))
    have HS2' := Lib.hid (HS2.out.past ((Below.refl w2.heap.size w2).alloc (Nat.le_refl _) (.cells L0.toArray 4)))
    have HB2' := Lib.hid (HB2.out.alloc HB2.out.size (.cells L0.toArray 4))
    have hLz : Hid ((List.replicate (2 + d) false).length = 2 + d) := Lib.hid (by simp)
    obtain ⟨l0, hl0⟩ : ∃ l0, List.replicate (2 + d) false = l0 := ⟨_, rfl⟩
    rw [hl0] at HM2 HS2' hLz
    clear hl0
    clear HS2 HB2 HS1 HB1 hmk HNONE HNEW
    go_loopw [10, 11] (fun v is wr => ∃ (k : Nat) (vo : Value), vo = v ∧ k ≤ n ∧ is = .int .i64 k ∧ Hid (MS wr (w.alloc (.cells #[.int .i64 x, .int .i64 m] 43)).heap.size b vo (setK l0 (xs.take k))) ∧ Hid (SS wr s b (setK l0 (xs.take k))) ∧ Hid (Below (w.alloc (.cells #[.int .i64 x, .int .i64 m] 43)).heap.size (w.alloc (.cells #[.int .i64 x, .int .i64 m] 43)) wr)) (fun _ is _ => n - (intOf is).toNat)
    case atStart => exact ⟨0, _, rfl, Nat.zero_le _, rfl, HM2, HS2', HB2'⟩
    case round =>
      obtain ⟨k, vo, rfl, hk, rfl, HM, HS, HB⟩ := hrel
      by_cases hlt : k < n
      · have hkx : k < xs.length := by have := HN.out; omega
        obtain ⟨bu, off, rfl, hbl, hcx⟩ := HR.out.2 (fun e => by rw [e] at hkx; simp at hkx)
        have hv6 : xs[k]?.getD 0 < 65536 := by
          rw [List.getElem?_eq_getElem hkx]
          exact HR.out.1 _ (List.getElem_mem hkx)
        have HZ9 : Hid (Below w.heap.size w (w.alloc (.cells #[.int .i64 x, .int .i64 m] 43))) := Lib.hid (belA (Below.refl _ _) _)
        have HCX : Hid (∀ W, Below (w.alloc (.cells #[.int .i64 x, .int .i64 m] 43)).heap.size (w.alloc (.cells #[.int .i64 x, .int .i64 m] 43)) W → W.cell? ⟨bu, off + k, none⟩ = some (.int .u16 (xs[k]?.getD 0 : Nat))) := Lib.hid fun W hW => ((HZ9.out.trans (hW.mono (by simp))).cell (p := ⟨bu, off + k, none⟩) hbl).trans (hcx k hkx)
        have hck := HCX.out wr HB.out
        have HSN := Lib.hid (setK_snoc l0 xs k hkx)
        have hki : (k : Int) < n := by omega
        obtain ⟨L, hL⟩ : ∃ L, setK l0 (xs.take k) = L := ⟨_, rfl⟩
        rw [hL] at HS HM HSN
        have HLL : Hid (L.length = 2 + d) := Lib.hid (by rw [← hL, setK_len, hLz.out])
        clear hL hcx hbl hkx
        obtain ⟨v, hv⟩ : ∃ v, xs[k]?.getD 0 = v := ⟨_, rfl⟩
        rw [hv] at hv6 hck HSN HCX
        clear hv
        obtain ⟨Am, cm, hvo, hRM⟩ := HM.out.own.form
        rw [HLL.out] at hvo
        subst hvo
        have HSET := Lib.hid (set_any s b L (v : Int) wr HS.out)
        have HWITH : Hid (∀ w3, wr.grownBy w3 (some b) → Calls Try.prog 12 #[.slice Am (2 + d) cm, .int .i64 (v : Int), .bool true] w3 (BoolsPost (putB L (v : Int) true) w3)) := Lib.hid fun w3 hg => by
          have hM3 := HM.out.grown hg
          obtain ⟨A3, c3, h3, hR3⟩ := hM3.own.form
          rw [HLL.out] at h3
          injection h3 with e1 e2 e3
          subst e1; subst e3
          exact with_any _ L (2 + d) _ v true HLL.out.symm (by omega) (by omega) w3 hR3
        have HAFT : Hid (∀ w3, wr.grownBy w3 (some b) → w3.cell? ⟨bu, off + k, none⟩ = some (.int .u16 (v : Int))) := Lib.hid fun w3 hg => HCX.out w3 (HB.out.grown hg HB.out.size (fun j e => by cases e; exact HBB.out))
        have HSZ := Lib.hid HB.out.size
        clear hRM HM HS HR HN HCX
        go_wp2_with (first
          | (go_at_call 11; (with_reducible refine HSET.out.mono ?_); rintro e w3 ⟨rfl, h3, hg3⟩; have hck3 := HAFT.out w3 hg3; have HS3 := Lib.hid h3; have HG3 := Lib.hid hg3; clear h3 hg3)
          | (go_at_call 12; (with_reducible refine (HWITH.out w3 HG3.out).mono ?_); rintro e w4 ⟨v2, rfl, hv2, hb4⟩; have HF := Lib.hid (goes_round HSZ.out HBB.out HB.out HS3.out HG3.out hv2 hb4); clear hv2 hb4))
        go_roundw
        case rel => exact ⟨k + 1, v2, rfl, hlt, by go_num, by rw [HSN.out]; exact HF.out.2.1, by rw [HSN.out]; exact HF.out.1, HF.out.2.2⟩
        case measure => simp [intOf]; omega
      · obtain rfl : k = n := by omega
        obtain ⟨L, hL⟩ : ∃ L, setK l0 (xs.take k) = L := ⟨_, rfl⟩
        rw [hL] at HS HM
        have HLL : Hid (L.length = 2 + d) := Lib.hid (by rw [← hL, setK_len, hLz.out])
        clear hL
        obtain ⟨Am, cm, hvo, hRM⟩ := HM.out.own.form
        rw [HLL.out] at hvo
        subst hvo
        have HNX : Hid (∀ W, Below wr.heap.size wr W → Calls Try.prog 21 #[.pointer (some ⟨s, 0, none⟩), .int .i64 x, .int .i64 m] W fun e w' => e = .returned (.int .i64 (posU L m.toNat (clampZ (2 + d) x))) ∧ Below W.heap.size W w') := Lib.hid fun W hW => by
          have := next_any s b L x m W (HS.out.past hW) hm
          rw [HLL.out] at this
          exact this
        have HAH : Hid (∀ W, Below wr.heap.size wr W → Calls Try.prog 23 #[.pointer (some ⟨s, 0, none⟩), .int .i64 x, .int .i64 m] W fun e w' => e = .returned (.int .i64 (posD L m.toNat (clampZ (2 + d) x))) ∧ Below W.heap.size W w') := Lib.hid fun W hW => by
          have := ahead_any s b L x m W (HS.out.past hW) hm
          rw [HLL.out] at this
          exact this
        have HGU : Hid (∀ W, Below wr.heap.size wr W → Calls Try.prog 22 #[.slice Am (2 + d) cm, .int .i64 x, .int .i64 m, .int .i64 1] W fun e w' => e = .returned (.int .i64 (posU L m.toNat (clampZ (2 + d) x))) ∧ Below W.heap.size W w') := Lib.hid fun W hW =>
          (goU_any Am L (2 + d) cm x m HLL.out.symm (by omega) (by omega) W (rb_past hRM hW)).mono fun e w' h => ⟨h.1, by rw [← h.2]; exact Below.refl _ _⟩
        have HGD : Hid (∀ W, Below wr.heap.size wr W → Calls Try.prog 22 #[.slice Am (2 + d) cm, .int .i64 x, .int .i64 m, .int .i64 (-1)] W fun e w' => e = .returned (.int .i64 (posD L m.toNat (clampZ (2 + d) x))) ∧ Below W.heap.size W w') := Lib.hid fun W hW =>
          (goD_any Am L (2 + d) cm x m HLL.out.symm (by omega) (by omega) W (rb_past hRM hW)).mono fun e w' h => ⟨h.1, by rw [← h.2]; exact Below.refl _ _⟩
        generalize posU L m.toNat (clampZ (2 + d) x) = pu at *
        generalize posD L m.toNat (clampZ (2 + d) x) = pd at *
        have hg0 : wr.cell? ⟨w.heap.size, 0, none⟩ = some (.int .i64 x) := (HB.out.cell (p := ⟨w.heap.size, 0, none⟩) (by simp)).trans (by simp)
        have hg1 : wr.cell? ⟨w.heap.size, 1, none⟩ = some (.int .i64 m) := (HB.out.cell (p := ⟨w.heap.size, 1, none⟩) (by simp)).trans (by simp)
        have hgz : w.heap.size < wr.heap.size := by have := HB.out.size; simp at this; omega
        have HBW : Hid (Below w.heap.size w wr) := Lib.hid ((belA (Below.refl w.heap.size w) _).trans (HB.out.mono (by simp)))
        have hS : (wr.cell? ⟨w.heap.size, 0, none⟩ = some (.int .i64 x) ∧ wr.cell? ⟨w.heap.size, 1, none⟩ = some (.int .i64 m)) ∧ w.heap.size < wr.heap.size ∧ Below wr.heap.size wr wr := ⟨⟨hg0, hg1⟩, hgz, Below.refl _ _⟩
        have hSd := goes_step hS ((Below.refl wr.heap.size wr).drew)
        clear hg0 hg1 hgz HS HM hRM HB HR HN HM2 HS2' HB2' hlt hk
        go_wp2
        go_region_held3 (fun W => (W.cell? ⟨w.heap.size, 0, none⟩ = some (.int .i64 x) ∧ W.cell? ⟨w.heap.size, 1, none⟩ = some (.int .i64 m)) ∧ w.heap.size < W.heap.size ∧ Below wr.heap.size wr W)
          (first | exact hSd | exact goes_step hSd hb6 | exact goes_step (by assumption) hb6)
          (first
            | (go_at_call 21; (with_reducible refine (HNX.out _ ?_).mono ?_); (first | exact goes_below (by assumption) | exact goes_below hSd | exact (goes_below (goes_step hSd hb6))); rintro e6 w6 ⟨rfl, hb6⟩)
            | (go_at_call 23; (with_reducible refine (HAH.out _ ?_).mono ?_); (first | exact goes_below (by assumption) | exact goes_below hSd | exact (goes_below (goes_step hSd hb6))); rintro e6 w6 ⟨rfl, hb6⟩)
            | (go_at_call 22; (with_reducible refine (HGU.out _ ?_).mono ?_); (first | exact goes_below (by assumption) | exact goes_below hSd | exact (goes_below (goes_step hSd hb6))); rintro e6 w6 ⟨rfl, hb6⟩)
            | (go_at_call 22; (with_reducible refine (HGD.out _ ?_).mono ?_); (first | exact goes_below (by assumption) | exact goes_below hSd | exact (goes_below (goes_step hSd hb6))); rintro e6 w6 ⟨rfl, hb6⟩))
        go_wp2
        go_ret
        exact ⟨rfl, bel0 HBW.out (goes_below (by assumption))⟩

end Go.Proofs.Ytabipecpkbjdkaa
