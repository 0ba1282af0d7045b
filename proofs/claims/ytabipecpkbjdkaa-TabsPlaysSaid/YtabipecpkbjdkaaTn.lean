/- The walk of the law TabsHas. -/
import Derived.Test.YtabipecpkbjdkaaTm
namespace Go.Proofs.Ytabipecpkbjdkaa
open Go.RowKit

/-- A slice that reads as numbers of 16 bits; it lies below block B. -/
def RU (w : World) (B : Nat) (A : Option Addr) (xs : List Nat) : Prop :=
  (∀ x ∈ xs, x < 65536) ∧ (xs ≠ [] → ∃ b off, A = some ⟨b, off, none⟩ ∧ b < B ∧ ∀ k, k < xs.length → w.cell? ⟨b, off + k, none⟩ = some (.int .u16 (xs[k]?.getD 0 : Nat)))
theorem RU.below {w w' : World} {B : Nat} {A : Option Addr} {xs : List Nat} (h : RU w B A xs) (hb : Below B w w') : RU w' B A xs := ⟨h.1, fun hn => by
  obtain ⟨b, off, e, hlt, hc⟩ := h.2 hn
  exact ⟨b, off, e, hlt, fun k hk => (hb.cell (p := ⟨b, off + k, none⟩) hlt).trans (hc k hk)⟩⟩

theorem hasB_put (l : List Bool) (v x : Int) (u : Bool) : hasB (putB l v u) x = if v = x ∧ colB l.length x = true then u else hasB l x := by
  unfold hasB
  rw [putB_len]
  cases hc : colB l.length x with
  | false =>
    rw [if_neg (by simp)]
    rfl
  | true =>
    obtain ⟨h0, h1⟩ := colB_yes hc
    rw [Bool.true_and, Bool.true_and]
    unfold putB
    by_cases hv : v = x
    · subst hv
      rw [if_pos hc, if_pos ⟨rfl, rfl⟩, List.getElem?_set, if_pos rfl, if_pos (by omega)]
      rfl
    · rw [if_neg (show ¬ (v = x ∧ true = true) from fun h => hv h.1)]
      cases hv2 : colB l.length v with
      | false => rfl
      | true =>
        obtain ⟨h2, h3⟩ := colB_yes hv2
        rw [if_pos rfl, List.getElem?_set, if_neg (by omega)]
theorem hasB_first (c : Nat) (x : Int) : hasB (resL [] c) x = (decide (0 ≤ x) && decide (x < (c : Int)) && (x % 8 == 0)) := by
  unfold hasB
  rw [resL_len]
  by_cases h : 0 ≤ x ∧ x < (c : Int)
  · rw [show colB c x = true from decide_eq_true h, decide_eq_true h.1, decide_eq_true h.2, Bool.true_and, Bool.true_and, Bool.true_and]
    have hx : x.toNat < c := by omega
    rw [resL, List.getElem?_map, List.getElem?_range hx]
    show tgtB [] x.toNat = _
    unfold tgtB
    rw [if_neg (by simp), Bool.eq_iff_iff]
    simp
    omega
  · rw [show colB c x = false from decide_eq_false h, Bool.false_and]
    by_cases h0 : 0 ≤ x
    · rw [decide_eq_false (show ¬ x < (c : Int) by omega)]
      simp
    · rw [decide_eq_false h0]
      simp
def setK (l : List Bool) (xs : List Nat) : List Bool := xs.foldl (fun m (v : Nat) => putB m (v : Int) true) l
theorem setK_len (l : List Bool) (xs : List Nat) : (setK l xs).length = l.length := by
  induction xs generalizing l with
  | nil => rfl
  | cons v r ih =>
    show (setK (putB l v true) r).length = _
    rw [ih, putB_len]
theorem setK_snoc (l : List Bool) (xs : List Nat) (k : Nat) (h : k < xs.length) : setK l (xs.take (k + 1)) = putB (setK l (xs.take k)) ((xs[k]?.getD 0 : Nat) : Int) true := by
  rw [List.take_succ_eq_append_getElem h, setK, List.foldl_append, List.getElem?_eq_getElem h]
  rfl
theorem hasB_step (l : List Bool) (v x : Int) : hasB (putB l v true) x = (hasB l x || (v == x) && decide (x < (l.length : Int)) && decide (0 ≤ x)) := by
  rw [hasB_put]
  by_cases h : v = x ∧ colB l.length x = true
  · obtain ⟨h0, h1⟩ := colB_yes h.2
    rw [if_pos h, h.1]
    simp [h0, h1]
  · rw [if_neg h]
    by_cases hv : v = x
    · subst hv
      have hc : colB l.length v = false := by
        cases hc : colB l.length v with
        | false => rfl
        | true => exact absurd ⟨rfl, hc⟩ h
      rcases colB_no hc with h0 | h0
      · simp [show ¬ 0 ≤ v by omega]
      · simp [show ¬ v < (l.length : Int) by omega]
    · simp [hv]
theorem hasB_gone (l : List Bool) (x : Int) : hasB (putB l x false) x = false := by
  rw [hasB_put]
  split
  · rfl
  · rename_i h
    unfold hasB
    cases hc : colB l.length x with
    | false => rfl
    | true => exact absurd ⟨rfl, hc⟩ h

set_option maxRecDepth 100000 in
set_option maxHeartbeats 4000000 in
theorem tabsHas_law (cols x : Int) (A : Option Addr) (xs : List Nat) (n cp : Nat) (hn : n = xs.length) (hc0 : 0 ≤ cols) (hc1 : cols ≤ 65535) (w : World) (hR : RU w w.heap.size A xs) :
    Calls Try.prog 7 #[.int .u16 cols, .slice A n cp, .int .i64 x] w fun e w' => e = .returned (.bool true) ∧ Below w.heap.size w w' := by
  by_cases h60 : (60 : Int) < n
  · clear hn hR
    go_enter Try.func7, Try.ntmps7
    go_wp2_with (go_at_call 8; (with_reducible refine (awake_any _).mono ?_); rintro e w0 ⟨rfl, hb0⟩)
    go_ret
    exact ⟨rfl, hb0⟩
  · have hn60 : (n : Int) ≤ 60 := by omega
    obtain ⟨d, hd⟩ : ∃ d : Nat, cols % 999 = d := ⟨(cols % 999).toNat, by omega⟩
    have hd9 : d ≤ 998 := by omega
    obtain ⟨l, hl⟩ : ∃ l, l = resL [] (2 + d) := ⟨_, rfl⟩
    have HLEN : Hid (l.length = 2 + d) := Lib.hid (by rw [hl, resL_len])
    have HNEW := Lib.hid (fun W => new_l d hd9 l hl W)
    have HCO : Hid (∀ s b W l', l'.length = 2 + d → SS W s b l' → Calls Try.prog 17 #[.pointer (some ⟨s, 0, none⟩)] W fun e w' => e = .returned (.int .i64 (2 + (d : Int))) ∧ W = w') := Lib.hid fun s b W l' hl' h => by
      have := cols_any s b _ W h
      rw [hl', show ((2 + d : Nat) : Int) = 2 + (d : Int) by omega] at this
      exact this
    have HFIRST : Hid (hasB l x = (decide (0 ≤ x) && decide (x < 2 + (d : Int)) && (x % 8 == 0))) := Lib.hid (by rw [hl, hasB_first, show ((2 + d : Nat) : Int) = 2 + (d : Int) by omega])
    have HR := Lib.hid hR
    have HN := Lib.hid hn
    clear hl hR hn h60
    go_enter Try.func7, Try.ntmps7
    go_upto_region 6 with (first
      | (go_at_call 8; (with_reducible refine (awake_any _).mono ?_); rintro e w0 ⟨rfl, hb0⟩; have HB0 := Lib.hid hb0; clear hb0)
      | (go_at_call 9; (with_reducible refine (HNEW.out _).mono ?_); rintro e w1 ⟨s, b, rfl, hS, hs, hb, hB⟩; have HS1 := Lib.hid hS; have HB1 := Lib.hid (bel0 HB0.out hB); have HBB := Lib.hid (Nat.le_trans HB0.out.size hb); have HSS := Lib.hid (Nat.le_trans HB0.out.size hs); clear hS hs hb hB))
    go_cut [9] (fun s9 wx => s9 = .bool (hasB l x) ∧ w1 = wx)
    case first =>
      by_cases h0 : 0 ≤ x
      · by_cases h1 : x < 2 + (d : Int)
        · have hd0 : decide (0 ≤ x) = true := decide_eq_true h0
          have hd1 : decide (x < 2 + (d : Int)) = true := decide_eq_true h1
          go_wp2_with (go_at_call 17; (with_reducible refine (HCO.out s b _ l HLEN.out HS1.out).mono ?_); rintro e w' ⟨rfl, rfl⟩)
          go_meet
          exact ⟨by rw [HFIRST.out, hd0, hd1]; rfl, rfl⟩
        · have hd0 : decide (0 ≤ x) = true := decide_eq_true h0
          have hd1 : decide (x < 2 + (d : Int)) = false := decide_eq_false h1
          go_wp2_with (go_at_call 17; (with_reducible refine (HCO.out s b _ l HLEN.out HS1.out).mono ?_); rintro e w' ⟨rfl, rfl⟩)
          go_meet
          exact ⟨by rw [HFIRST.out, hd0, hd1]; rfl, rfl⟩
      · have hd0 : decide (0 ≤ x) = false := decide_eq_false h0
        clear h0
        go_wp2
        go_meet
        exact ⟨by rw [HFIRST.out, hd0]; rfl, rfl⟩
    case rest =>
      obtain ⟨rfl, rfl⟩ := hcut
      go_wp2
      go_loopw [9, 10] (fun ws is wr => ∃ k : Nat, k ≤ n ∧ is = .int .i64 k ∧ ws = .bool (hasB (setK l (xs.take k)) x) ∧ Hid (SS wr s b (setK l (xs.take k))) ∧ Hid (Below w.heap.size w wr)) (fun _ is _ => n - (intOf is).toNat)
      case atStart => exact ⟨0, Nat.zero_le _, rfl, rfl, HS1, HB1⟩
      case round =>
        obtain ⟨k, hk, rfl, rfl, HS, HB⟩ := hrel
        by_cases hlt : k < n
        · have hkx : k < xs.length := by have := HN.out; omega
          obtain ⟨bu, off, rfl, hbl, hcx⟩ := HR.out.2 (fun e => by rw [e] at hkx; simp at hkx)
          have hv6 : xs[k]?.getD 0 < 65536 := by
            rw [List.getElem?_eq_getElem hkx]
            exact HR.out.1 _ (List.getElem_mem hkx)
          have hck := (HB.out.cell (p := ⟨bu, off + k, none⟩) hbl).trans (hcx k hkx)
          have HBU := Lib.hid (show bu < w.heap.size from hbl)
          have HSN := Lib.hid (setK_snoc l xs k hkx)
          have hki : (k : Int) < n := by omega
          obtain ⟨L, hL⟩ : ∃ L, setK l (xs.take k) = L := ⟨_, rfl⟩
          rw [hL] at HS HSN ⊢
          have HLL : Hid (L.length = 2 + d) := Lib.hid (by rw [← hL, setK_len, HLEN.out])
          clear hL hcx hbl hkx
          obtain ⟨v, hv⟩ : ∃ v, xs[k]?.getD 0 = v := ⟨_, rfl⟩
          rw [hv] at hv6 hck HSN
          clear hv
          have HST := Lib.hid (hasB_step L (v : Int) x)
          have HSET := Lib.hid (set_any s b L (v : Int) wr HS.out)
          have HAFT : Hid (∀ w3, SS w3 s b (putB L (v : Int) true) → wr.grownBy w3 (some b) → Below w.heap.size w w3 ∧ w3.cell? ⟨bu, off + k, none⟩ = some (.int .u16 (v : Int))) := Lib.hid fun w3 h3 hg => by
            have hb3 : Below w.heap.size w w3 := HB.out.grown hg HB.out.size (fun j e => by cases e; exact HBB.out)
            refine ⟨hb3, ?_⟩
            have hcc := hck
            rw [show (bu = bu) from rfl] at *
            rw [← hcc]
            exact (hb3.cell (p := ⟨bu, off + k, none⟩) HBU.out).trans (HB.out.cell (p := ⟨bu, off + k, none⟩) HBU.out).symm
          have HP3 : Hid (∀ w3, SS w3 s b (putB L (v : Int) true) → Calls Try.prog 17 #[.pointer (some ⟨s, 0, none⟩)] w3 fun e w' => e = .returned (.int .i64 (2 + (d : Int))) ∧ w3 = w') := Lib.hid fun w3 h3 => HCO.out s b w3 _ (by rw [putB_len, HLL.out]) h3
          clear HS HCO HNEW HR HN
          cases hW : hasB L x with
          | true =>
            go_wp2_with (go_at_call 11; (with_reducible refine HSET.out.mono ?_); rintro e w3 ⟨rfl, h3, hg3⟩; obtain ⟨hb3, hck3⟩ := HAFT.out w3 h3 hg3; have HS3 := Lib.hid h3; have HB3 := Lib.hid hb3; clear h3 hg3 hb3)
            go_roundw
            case rel => exact ⟨k + 1, hlt, by go_num, by rw [HSN.out, HST.out, hW]; rfl, by rw [HSN.out]; exact HS3, HB3⟩
            case measure => simp [intOf]; omega
          | false =>
            by_cases hvx : (v : Int) = x
            · by_cases hxd : x < 2 + (d : Int)
              · have HW : Hid (hasB (putB L (v : Int) true) x = true) := Lib.hid (by
                  rw [HST.out, hW, HLL.out, show ((v : Int) == x) = true from by simpa using hvx, decide_eq_true (show x < ((2 + d : Nat) : Int) by omega), decide_eq_true (show 0 ≤ x by omega)]
                  rfl)
                have hvb : ((v : Int) == x) = true := by simpa using hvx
                have hxb : decide (x < 2 + (d : Int)) = true := decide_eq_true hxd
                clear hvx hxd HST hW
                go_wp2_with (first
                  | (go_at_call 11; (with_reducible refine HSET.out.mono ?_); rintro e w3 ⟨rfl, h3, hg3⟩; obtain ⟨hb3, hck3⟩ := HAFT.out w3 h3 hg3; have HS3 := Lib.hid h3; have HB3 := Lib.hid hb3; clear h3 hg3 hb3)
                  | (go_at_call 17; (with_reducible refine (HP3.out _ HS3.out).mono ?_); rintro e w' ⟨rfl, rfl⟩))
                go_roundw
                case rel => exact ⟨k + 1, hlt, by go_num, by rw [HSN.out, HW.out], by rw [HSN.out]; exact HS3, HB3⟩
                case measure => simp [intOf]; omega
              · have HW : Hid (hasB (putB L (v : Int) true) x = false) := Lib.hid (by
                  rw [HST.out, hW, HLL.out, decide_eq_false (show ¬ x < ((2 + d : Nat) : Int) by omega)]
                  simp)
                have hvb : ((v : Int) == x) = true := by simpa using hvx
                have hxb : decide (x < 2 + (d : Int)) = false := decide_eq_false hxd
                clear hvx hxd HST hW
                go_wp2_with (first
                  | (go_at_call 11; (with_reducible refine HSET.out.mono ?_); rintro e w3 ⟨rfl, h3, hg3⟩; obtain ⟨hb3, hck3⟩ := HAFT.out w3 h3 hg3; have HS3 := Lib.hid h3; have HB3 := Lib.hid hb3; clear h3 hg3 hb3)
                  | (go_at_call 17; (with_reducible refine (HP3.out _ HS3.out).mono ?_); rintro e w' ⟨rfl, rfl⟩))
                go_roundw
                case rel => exact ⟨k + 1, hlt, by go_num, by rw [HSN.out, HW.out], by rw [HSN.out]; exact HS3, HB3⟩
                case measure => simp [intOf]; omega
            · have HW : Hid (hasB (putB L (v : Int) true) x = false) := Lib.hid (by
                rw [HST.out, hW, show ((v : Int) == x) = false from by simpa using hvx]
                simp)
              have hvb : ((v : Int) == x) = false := by simpa using hvx
              clear hvx HST hW
              go_wp2_with (go_at_call 11; (with_reducible refine HSET.out.mono ?_); rintro e w3 ⟨rfl, h3, hg3⟩; obtain ⟨hb3, hck3⟩ := HAFT.out w3 h3 hg3; have HS3 := Lib.hid h3; have HB3 := Lib.hid hb3; clear h3 hg3 hb3)
              go_roundw
              case rel => exact ⟨k + 1, hlt, by go_num, by rw [HSN.out, HW.out], by rw [HSN.out]; exact HS3, HB3⟩
              case measure => simp [intOf]; omega
        · obtain rfl : k = n := by omega
          have HHAS := Lib.hid (has_any s b (setK l (xs.take k)) x wr HS.out)
          have HCL := Lib.hid (clear_any s b (setK l (xs.take k)) x wr HS.out)
          have HH2 : Hid (∀ w3, SS w3 s b (putB (setK l (xs.take k)) x false) → Calls Try.prog 24 #[.pointer (some ⟨s, 0, none⟩), .int .i64 x] w3 fun e w' => e = .returned (.bool false) ∧ w3 = w') := Lib.hid fun w3 h3 => by
            have := has_any s b _ x w3 h3
            rw [hasB_gone] at this
            exact this
          have HBG : Hid (∀ w3, wr.grownBy w3 (some b) → Below w.heap.size w w3) := Lib.hid fun w3 hg => HB.out.grown hg HB.out.size (fun j e => by cases e; exact HBB.out)
          generalize hasB (setK l (xs.take k)) x = W at *
          generalize putB (setK l (xs.take k)) x false = L2 at *
          clear HR HN HS hlt
          have hww : (W != W) = false := by simp
          go_wp2_with (first
            | (go_at_call 24; (with_reducible refine HHAS.out.mono ?_); rintro e w' ⟨rfl, rfl⟩)
            | (go_at_call 13; (with_reducible refine HCL.out.mono ?_); rintro e w3 ⟨rfl, h3, hg3⟩; have HS3 := Lib.hid h3; have HB3 := Lib.hid (HBG.out w3 hg3); clear h3 hg3)
            | (go_at_call 24; (with_reducible refine (HH2.out _ HS3.out).mono ?_); rintro e w' ⟨rfl, rfl⟩))
          go_ret
          exact ⟨rfl, HB3.out⟩

end Go.Proofs.Ytabipecpkbjdkaa
