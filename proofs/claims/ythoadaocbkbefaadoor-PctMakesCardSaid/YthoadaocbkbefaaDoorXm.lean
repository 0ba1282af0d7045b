/- The law PctMakes. Written by mkxl.py. -/
import Derived.Test.YthoadaocbkbefaaDoorXl
namespace Go.Proofs.YthoadaocbkbefaaDoor
open Go.RowKit

theorem idx_at (h s : List UInt8) (hh : 47 ∉ h) : (h ++ 47 :: s).idxOf? 47 = some h.length :=
  idx_first (by simp) (fun j hj e => by
    rw [List.getElem?_append_left hj] at e
    exact hh (List.mem_of_getElem? e))
theorem make_file (h r : List UInt8) (hh : 47 ∉ h) : fileL ([102, 105, 108, 101, 58, 47, 47] ++ h ++ layL (47 :: r)) = some (h, 47 :: r) := by
  have e : layL (47 :: r) = 47 :: layL r := by show lay1 47 ++ layL r = _; rw [show lay1 47 = [47] by decide]; rfl
  have e2 : ([102, 105, 108, 101, 58, 47, 47] ++ h ++ layL (47 :: r)).drop 7 = h ++ 47 :: layL r := by rw [e, List.append_assoc]; rfl
  have e3 : ([102, 105, 108, 101, 58, 47, 47] ++ h ++ layL (47 :: r)).take 7 = [102, 105, 108, 101, 58, 47, 47] := by rw [List.append_assoc]; rfl
  unfold fileL
  rw [e2, e3, if_pos ⟨by simp, by decide⟩, idx_at h _ hh]
  show some ((h ++ 47 :: layL r).take h.length, takeL ((h ++ 47 :: layL r).drop h.length)) = _
  rw [List.take_left, List.drop_left, ← e, take_lay0]
theorem notin_snoc (h : List UInt8) (k : Nat) (hk : k < h.length) : decide (47 ∉ h.take (k + 1)) = (decide (47 ∉ h.take k) && decide (h[k] ≠ 47)) := by
  rw [List.take_succ_eq_append_getElem hk]
  by_cases h1 : 47 ∈ h.take k
  · have e : 47 ∈ h.take k ++ [h[k]] := List.mem_append_left _ h1
    rw [decide_eq_false (fun hn => hn e), decide_eq_false (fun hn => hn h1)]
    rfl
  · by_cases h2 : h[k] = 47
    · have e : 47 ∈ h.take k ++ [h[k]] := List.mem_append_right _ (by simp [h2])
      rw [show decide (h[k] ≠ 47) = false from decide_eq_false (fun hn => hn h2), Bool.and_false]
      exact decide_eq_false (fun hn => hn e)
    · have e : 47 ∉ h.take k ++ [h[k]] := fun hm => (List.mem_append.1 hm).elim h1 (fun hm => h2 (by simpa using (List.mem_singleton.1 hm).symm))
      rw [decide_eq_true e, decide_eq_true h1, decide_eq_true h2]
      rfl
/-- Whether a path begins as it should. -/
def hd47 (p : List UInt8) : Bool := decide (p.head? = some 47)
set_option maxRecDepth 100000 in
set_option maxHeartbeats 4000000 in
theorem pctMakes_law (h p : List UInt8) (hL : h.length < 4000000000000000000) (hL2 : p.length < 4000000000000000000) (w : World) (hM : MT w) : Calls Tryd.prog 6 #[.string (bsB h), .string (bsB p)] w fun e w' => e = .returned (.bool true) ∧ Below w.heap.size w w' := by
  have HA := Lib.hid fun (W : World) (hW : Below w.heap.size w W) => awake_any W (hM.past hW)
  have HBc : Hid (Below w.heap.size w w) := Lib.hid (Below.refl _ _)
  by_cases h3 : 300 < h.length + p.length
  · have hs : (300 : Int) < (bsB h).size + (bsB p).size := by rw [bsB_size, bsB_size]; omega
    have hw : IntKind.i64.wrap (((bsB h).size : Int) + (bsB p).size) = (bsB h).size + (bsB p).size := by rw [bsB_size, bsB_size, IntKind.wrap_i64]; omega
    clear h3
    generalize bsB h = t at *
    generalize bsB p = t2 at *
    go_enter Tryd.func6, Tryd.ntmps6
    go_wp2_with (first
      | (go_at_call 8; (with_reducible refine (HA.out _ HBc.out).mono ?_); rintro e wx ⟨rfl, hb⟩; have HBc := Lib.hid (bel0 HBc.out hb); clear hb))
    go_ret
    exact ⟨rfl, HBc.out⟩
  have hs : ((bsB h).size : Int) = h.length := by rw [bsB_size]
  have hs2 : ((bsB p).size : Int) = p.length := by rw [bsB_size]
  have h3' : (h.length : Int) + p.length ≤ 300 := by omega
  have HI := Lib.hid (idx_bs h)
  have HNS := Lib.hid (notin_snoc h)
  by_cases hpd : hd47 p = true
  · obtain ⟨r, rfl⟩ : ∃ r, p = 47 :: r := by
      cases p with
      | nil => simp [hd47] at hpd
      | cons c r => exact ⟨r, by simpa [hd47] using hpd⟩
    have j0 := idx0_bs 47 r
    change ∀ W, (Instr.index 9 (.string (bsB (47 :: r))) (.int .i64 0)).run Tryd.prog W = .ok (.int .u8 47) W at j0
    have hp1 : (0 : Int) < (bsB (47 :: r)).size := by rw [bsB_size, List.length_cons]; omega
    have HMK : Hid (∀ W, Below w.heap.size w W → Calls Tryd.prog 16 #[.string (bsB h), .string (bsB (47 :: r))] W fun e w' => e = .returned (makeV h (47 :: r)) ∧ Below W.heap.size W w') := Lib.hid fun W hW => make_any h (47 :: r) (by omega) (by omega) W (hM.past hW)
    by_cases hh : 47 ∈ h
    · rw [show makeV h (47 :: r) = .tuple #[.string ⟨#[]⟩, .int .i64 4] from if_neg (fun a => a.2 hh)] at HMK
      have HEND : Hid (decide (47 ∉ h.take h.length) = false) := Lib.hid (by rw [List.take_length]; exact decide_eq_false (fun hn => hn hh))
      have HB1 : Hid (decide (47 ∉ h.take 0) = true) := Lib.hid (by simp)
      clear hpd hh h3
      generalize bsB (47 :: r) = t2 at *
      generalize (47 :: r).length = pn at *
      generalize hsq : bsB h = s at *
      clear hsq
      go_enter Tryd.func6, Tryd.ntmps6
      go_wp2_with (first
        | (go_at_call 16; (with_reducible refine (HMK.out _ HBc.out).mono ?_); rintro e wx ⟨rfl, hb⟩; have HBc := Lib.hid (bel0 HBc.out hb); clear hb))
      go_loopw [7, 8] (fun q7 q wr => ∃ k : Nat, q = .int .i64 k ∧ k ≤ h.length ∧ q7 = .bool (decide (47 ∉ h.take k)) ∧ Hid (Below w.heap.size w wr)) (fun _ q _ => h.length - (intOf q).toNat)
      case atStart => exact ⟨0, rfl, Nat.zero_le _, by rw [HB1.out], HBc⟩
      case round =>
        obtain ⟨k, rfl, hk, rfl, HBc⟩ := hrel
        by_cases hlt : k < h.length
        · have hz := List.getElem?_eq_getElem hlt
          have j1 := HI.out k _ hz
          have hns := Lib.hid (HNS.out k hlt)
          have hki : (k : Int) < h.length := by omega
          by_cases hb : 47 ∉ h.take k
          · rw [decide_eq_true hb] at hns ⊢
            by_cases hc : h[k] = 47
            · have HK2 : Hid (decide (47 ∉ h.take (k + 1)) = false) := Lib.hid (by rw [hns.out, decide_eq_false (fun hn => hn hc)]; rfl)
              rw [hc] at j1
              change ∀ W, (Instr.index 9 (.string s) (.int .i64 k)).run Tryd.prog W = .ok (.int .u8 47) W at j1
              clear hz hb hc HNS HI hns
              generalize hml : h.length = m at *
              clear hml
              go_wp2
              go_roundw
              case rel => exact ⟨k + 1, by go_num, hlt, by rw [HK2.out], HBc⟩
              case measure => simp [intOf]; omega
            · have HK2 : Hid (decide (47 ∉ h.take (k + 1)) = true) := Lib.hid (by rw [hns.out, decide_eq_true hc]; rfl)
              generalize h[k] = c at *
              have hne : ((c.toNat : Int) != 47) = true := by
                have : c.toNat ≠ 47 := fun e => hc (UInt8.toNat_inj.1 e)
                simp; omega
              clear hz hb hc HNS HI hns
              generalize c.toNat = cn at *
              generalize hml : h.length = m at *
              clear hml
              go_wp2
              go_roundw
              case rel => exact ⟨k + 1, by go_num, hlt, by rw [HK2.out], HBc⟩
              case measure => simp [intOf]; omega
          · rw [decide_eq_false hb] at hns ⊢
            have HK2 : Hid (decide (47 ∉ h.take (k + 1)) = false) := Lib.hid (by rw [hns.out]; rfl)
            clear hz hb HNS HI hns j1
            generalize hml : h.length = m at *
            clear hml
            go_wp2
            go_roundw
            case rel => exact ⟨k + 1, by go_num, hlt, by rw [HK2.out], HBc⟩
            case measure => simp [intOf]; omega
        · obtain rfl : k = h.length := by omega
          have he := HEND.out
          clear HNS HI HEND HB1
          rw [he]
          generalize h.length = m at *
          go_wp2_with (first
            | (go_at_call 8; (with_reducible refine (HA.out _ HBc.out).mono ?_); rintro e wx ⟨rfl, hb⟩; have HBc := Lib.hid (bel0 HBc.out hb); clear hb))
          go_ret
          exact ⟨rfl, HBc.out⟩
    · rw [show makeV h (47 :: r) = .tuple #[.string (bsB ([102, 105, 108, 101, 58, 47, 47] ++ h ++ layL (47 :: r))), .int .i64 0] from if_pos ⟨rfl, hh⟩] at HMK
      have hlay := layL_len (47 :: r)
      have HF : Hid (∀ W, Below w.heap.size w W → Calls Tryd.prog 14 #[.string (bsB ([102, 105, 108, 101, 58, 47, 47] ++ h ++ layL (47 :: r)))] W fun e w' => e = .returned (.tuple #[.string (bsB h), .string (bsB (47 :: r)), .int .i64 0]) ∧ Below W.heap.size W w') := Lib.hid fun W hW => by
        have hf := file_any ([102, 105, 108, 101, 58, 47, 47] ++ h ++ layL (47 :: r)) (by rw [List.length_append, List.length_append]; simp only [List.length_cons, List.length_nil] at hlay h3 ⊢; omega) W (hM.past hW)
        rwa [show fileV ([102, 105, 108, 101, 58, 47, 47] ++ h ++ layL (47 :: r)) = .tuple #[.string (bsB h), .string (bsB (47 :: r)), .int .i64 0] by unfold fileV; rw [make_file h r hh]] at hf
      have HRL : Hid (∀ W, Below w.heap.size w W → Calls Tryd.prog 11 #[.string (bsB (47 :: r))] W fun e w' => e = .returned (.string (bsB (layL (47 :: r)))) ∧ Below W.heap.size W w') := Lib.hid fun W hW => refLay_any _ (by omega) W
      have HJ : (⟨#[102, 105, 108, 101, 58, 47, 47]⟩ : ByteArray) ++ bsB h ++ bsB (layL (47 :: r)) = bsB ([102, 105, 108, 101, 58, 47, 47] ++ h ++ layL (47 :: r)) := by rw [← bsB_app, ← bsB_app]; rfl
      have hz1 : ((bsB h).size : Int) ≤ 300 := by rw [bsB_size]; omega
      have hz2 : ((bsB (layL (47 :: r))).size : Int) ≤ 900 := by rw [bsB_size]; omega
      have HEND : Hid (decide (47 ∉ h.take h.length) = true) := Lib.hid (by rw [List.take_length]; exact decide_eq_true hh)
      have HB1 : Hid (decide (47 ∉ h.take 0) = true) := Lib.hid (by simp)
      have HJH := Lib.hid HJ
      clear hpd hh h3 hlay HJ
      generalize bsB ([102, 105, 108, 101, 58, 47, 47] ++ h ++ layL (47 :: r)) = tj at *
      generalize bsB (layL (47 :: r)) = tl at *
      generalize bsB (47 :: r) = t2 at *
      generalize (47 :: r).length = pn at *
      generalize hsq : bsB h = s at *
      clear hsq
      go_enter Tryd.func6, Tryd.ntmps6
      go_wp2_with (first
        | (go_at_call 16; (with_reducible refine (HMK.out _ HBc.out).mono ?_); rintro e wx ⟨rfl, hb⟩; have HBc := Lib.hid (bel0 HBc.out hb); clear hb))
      go_loopw [7, 8] (fun q7 q wr => ∃ k : Nat, q = .int .i64 k ∧ k ≤ h.length ∧ q7 = .bool (decide (47 ∉ h.take k)) ∧ Hid (Below w.heap.size w wr)) (fun _ q _ => h.length - (intOf q).toNat)
      case atStart => exact ⟨0, rfl, Nat.zero_le _, by rw [HB1.out], HBc⟩
      case round =>
        obtain ⟨k, rfl, hk, rfl, HBc⟩ := hrel
        by_cases hlt : k < h.length
        · have hz := List.getElem?_eq_getElem hlt
          have j1 := HI.out k _ hz
          have hns := Lib.hid (HNS.out k hlt)
          have hki : (k : Int) < h.length := by omega
          by_cases hb : 47 ∉ h.take k
          · rw [decide_eq_true hb] at hns ⊢
            by_cases hc : h[k] = 47
            · have HK2 : Hid (decide (47 ∉ h.take (k + 1)) = false) := Lib.hid (by rw [hns.out, decide_eq_false (fun hn => hn hc)]; rfl)
              rw [hc] at j1
              change ∀ W, (Instr.index 9 (.string s) (.int .i64 k)).run Tryd.prog W = .ok (.int .u8 47) W at j1
              clear hz hb hc HNS HI hns
              generalize hml : h.length = m at *
              clear hml
              go_wp2
              go_roundw
              case rel => exact ⟨k + 1, by go_num, hlt, by rw [HK2.out], HBc⟩
              case measure => simp [intOf]; omega
            · have HK2 : Hid (decide (47 ∉ h.take (k + 1)) = true) := Lib.hid (by rw [hns.out, decide_eq_true hc]; rfl)
              generalize h[k] = c at *
              have hne : ((c.toNat : Int) != 47) = true := by
                have : c.toNat ≠ 47 := fun e => hc (UInt8.toNat_inj.1 e)
                simp; omega
              clear hz hb hc HNS HI hns
              generalize c.toNat = cn at *
              generalize hml : h.length = m at *
              clear hml
              go_wp2
              go_roundw
              case rel => exact ⟨k + 1, by go_num, hlt, by rw [HK2.out], HBc⟩
              case measure => simp [intOf]; omega
          · rw [decide_eq_false hb] at hns ⊢
            have HK2 : Hid (decide (47 ∉ h.take (k + 1)) = false) := Lib.hid (by rw [hns.out]; rfl)
            clear hz hb HNS HI hns j1
            generalize hml : h.length = m at *
            clear hml
            go_wp2
            go_roundw
            case rel => exact ⟨k + 1, by go_num, hlt, by rw [HK2.out], HBc⟩
            case measure => simp [intOf]; omega
        · obtain rfl : k = h.length := by omega
          have he := HEND.out
          have hj := HJH.out
          clear HNS HI HEND HB1
          rw [he]
          generalize h.length = m at *
          go_wp2_with (first
            | (go_at_call 14; (with_reducible refine (HF.out _ HBc.out).mono ?_); rintro e wx ⟨rfl, hb⟩; have HBc := Lib.hid (bel0 HBc.out hb); clear hb)
            | (go_at_call 11; (with_reducible refine (HRL.out _ HBc.out).mono ?_); rintro e wx ⟨rfl, hb⟩; have HBc := Lib.hid (bel0 HBc.out hb); clear hb)
            | (go_at_call 8; (with_reducible refine (HA.out _ HBc.out).mono ?_); rintro e wx ⟨rfl, hb⟩; have HBc := Lib.hid (bel0 HBc.out hb); clear hb))
          go_ret
          exact ⟨rfl, HBc.out⟩
  · have hpd2 : hd47 p = false := by simpa using hpd
    have HMK : Hid (∀ W, Below w.heap.size w W → Calls Tryd.prog 16 #[.string (bsB h), .string (bsB p)] W fun e w' => e = .returned (.tuple #[.string ⟨#[]⟩, .int .i64 4]) ∧ Below W.heap.size W w') := Lib.hid fun W hW => by
      have hm := make_any h p (by omega) (by omega) W (hM.past hW)
      rwa [show makeV h p = .tuple #[.string ⟨#[]⟩, .int .i64 4] from if_neg (fun a => by unfold hd47 at hpd2; rw [a.1] at hpd2; simp at hpd2)] at hm
    have hcase : p = [] ∨ ∃ c r, p = c :: r ∧ c ≠ 47 := by
      cases p with
      | nil => exact .inl rfl
      | cons c r => exact .inr ⟨c, r, rfl, by rintro rfl; simp [hd47] at hpd2⟩
    rcases hcase with rfl | ⟨c, r, rfl, hc⟩
    · have hp0 : ((bsB []).size : Int) = 0 := by rw [bsB_size]; rfl
      clear hpd hpd2 h3 HNS hs2
      generalize bsB [] = t2 at *
      generalize hsq : bsB h = s at *
      clear hsq
      simp only [List.length_nil] at h3'
      go_enter Tryd.func6, Tryd.ntmps6
      go_wp2_with (first
        | (go_at_call 16; (with_reducible refine (HMK.out _ HBc.out).mono ?_); rintro e wx ⟨rfl, hb⟩; have HBc := Lib.hid (bel0 HBc.out hb); clear hb))
      go_loopw [7, 8] (fun q7 q wr => ∃ k : Nat, q = .int .i64 k ∧ k ≤ h.length ∧ q7 = .bool false ∧ Hid (Below w.heap.size w wr)) (fun _ q _ => h.length - (intOf q).toNat)
      case atStart => exact ⟨0, rfl, Nat.zero_le _, rfl, HBc⟩
      case round =>
        obtain ⟨k, rfl, hk, rfl, HBc⟩ := hrel
        clear HI
        by_cases hlt : k < h.length
        · have hki : (k : Int) < h.length := by omega
          generalize h.length = m at *
          go_wp2
          go_roundw
          case rel => exact ⟨k + 1, by go_num, hlt, by trivial, HBc⟩
          case measure => simp [intOf]; omega
        · obtain rfl : k = h.length := by omega
          generalize h.length = m at *
          go_wp2_with (first
            | (go_at_call 8; (with_reducible refine (HA.out _ HBc.out).mono ?_); rintro e wx ⟨rfl, hb⟩; have HBc := Lib.hid (bel0 HBc.out hb); clear hb))
          go_ret
          exact ⟨rfl, HBc.out⟩
    · have hp1 : (0 : Int) < (bsB (c :: r)).size := by rw [bsB_size, List.length_cons]; omega
      have j0 := idx0_bs c r
      have hne : ((c.toNat : Int) == 47) = false := by
        have : c.toNat ≠ 47 := fun e => hc (UInt8.toNat_inj.1 e)
        simp; omega
      clear hpd hpd2 h3 HNS hc
      generalize bsB (c :: r) = t2 at *
      generalize (c :: r).length = pn at *
      generalize c.toNat = cn at *
      generalize hsq : bsB h = s at *
      clear hsq
      go_enter Tryd.func6, Tryd.ntmps6
      go_wp2_with (first
        | (go_at_call 16; (with_reducible refine (HMK.out _ HBc.out).mono ?_); rintro e wx ⟨rfl, hb⟩; have HBc := Lib.hid (bel0 HBc.out hb); clear hb))
      go_loopw [7, 8] (fun q7 q wr => ∃ k : Nat, q = .int .i64 k ∧ k ≤ h.length ∧ q7 = .bool false ∧ Hid (Below w.heap.size w wr)) (fun _ q _ => h.length - (intOf q).toNat)
      case atStart => exact ⟨0, rfl, Nat.zero_le _, rfl, HBc⟩
      case round =>
        obtain ⟨k, rfl, hk, rfl, HBc⟩ := hrel
        clear HI
        by_cases hlt : k < h.length
        · have hki : (k : Int) < h.length := by omega
          generalize h.length = m at *
          go_wp2
          go_roundw
          case rel => exact ⟨k + 1, by go_num, hlt, by trivial, HBc⟩
          case measure => simp [intOf]; omega
        · obtain rfl : k = h.length := by omega
          generalize h.length = m at *
          go_wp2_with (first
            | (go_at_call 8; (with_reducible refine (HA.out _ HBc.out).mono ?_); rintro e wx ⟨rfl, hb⟩; have HBc := Lib.hid (bel0 HBc.out hb); clear hb))
          go_ret
          exact ⟨rfl, HBc.out⟩
end Go.Proofs.YthoadaocbkbefaaDoor
