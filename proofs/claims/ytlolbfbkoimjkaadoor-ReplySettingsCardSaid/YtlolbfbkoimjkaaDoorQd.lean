/- The walk of each with Text's function; Text. -/
import Derived.Test.YtlolbfbkoimjkaaDoorQc
namespace Go.Proofs.YtlolbfbkoimjkaaDoor
open Go.RowKit

def eachT_anyPost (w0 : World) (lb : Nat) (D : List (List Int)) (e : Ending) (w' : World) : Prop := ∃ v', e = .returned (.tuple #[]) ∧ TX w0 w' lb D [] v'
set_option maxRecDepth 100000 in
set_option maxHeartbeats 8000000 in
theorem eachT_any (A : Option Addr) (l : List (List Int)) (n cp lb : Nat) (hn : n = l.length) (hcap : n ≤ cp) (h1 : n ≤ 1000) (hrow : ∀ r ∈ l, r.length ≤ 1000) (w0 w : World) (v0 : Value) (hR : RG w0 lb A l) (hS : TX w0 w lb [] [] v0) (hT10 : T10 lb w0) :
    Calls Tryd.prog 48 #[.slice A n cp, .func (.func 49) #[] #[.pointer (some ⟨lb, 0, none⟩)]] w (eachT_anyPost  w0 lb (cleanL l)) := by
  have HT10 := Lib.hid hT10
  clear hT10
  have HN := Lib.hid hn
  have HR := Lib.hid hR
  have HROW := Lib.hid hrow
  by_cases hn0 : n = 0
  · have hl : l = [] := List.eq_nil_of_length_eq_zero (hn ▸ hn0)
    have HCL : Hid (Calls Tryd.prog 49 #[.int .i64 0, .int .i64 0, .int .i64 (-1), .pointer (some ⟨lb, 0, none⟩)] w fun e w' => ∃ v', e = .returned (.tuple #[]) ∧ TX w0 w' lb [] ([] ++ [-1]) v') := Lib.hid (text1_any lb [] [] (-1) v0 w0 w hS (by simp) (by simp) (by omega) (by omega) HT10.out)
    have HE : Hid (∀ w' v', TX w0 w' lb [] ([] ++ [-1]) v' → eachT_anyPost  w0 lb (cleanL l) (.returned (.tuple #[])) w') := Lib.hid fun w' v' h => ⟨v', rfl, by
      have := h.step (by simp) (by simp)
      rw [hl]
      exact this⟩
    clear hl hn hR hrow hS
    subst hn0
    go_enter Tryd.func48, Tryd.ntmps48
    go_wp2_with (go_at_call 49; (with_reducible refine HCL.out.mono ?_); rintro e w3 ⟨v3, rfl, h3⟩; have HS3 := Lib.hid h3; clear h3)
    refine wp_loop_rounds 1 ?_
    rw [rounds_succ]
    go_wp2
    go_end0
    exact HE.out _ _ HS3.out
  · obtain ⟨b, off, rfl, hbl, hcx⟩ := hR (fun e => by rw [e] at hn; simp at hn; omega)
    have HCX : Hid (∀ i, i < n → ∃ Ai ci, w0.cell? ⟨b, off + i, none⟩ = some (.slice Ai (l[i]?.getD []).length ci) ∧ RI w0 lb Ai (l[i]?.getD []) ∧ (l[i]?.getD []).length ≤ ci) := Lib.hid fun i hi => hcx i (hn ▸ hi)
    have HBL := Lib.hid hbl
    obtain ⟨N, hN⟩ : ∃ N, min n 32 = N := ⟨_, rfl⟩
    have HNN := Lib.hid hN
    have hNn : N ≤ n := by omega
    have hNc : (N : Int) ≤ cp := by omega
    have hNc2 : N ≤ cp := by omega
    have hN1 : N ≤ 1000 := by omega
    have hN32 : N ≤ 32 := by omega
    have HEND : Hid ((l.take N).map rowZ = cleanL l) := Lib.hid (by
      unfold cleanL
      rw [if_neg (fun e => hn0 (by rw [hn, e]; rfl))]
      rw [← hN, hn, Nat.min_comm, ← List.take_take, List.take_length])
    have hcase : (n ≤ 32 ∧ n = N) ∨ (32 < n ∧ 32 = N) := by omega
    have hnb : ((n : Int) == 0) = false := by simp; omega
    have HS0 := Lib.hid hS
    clear hR hbl hcx hN hn hrow hS
    go_enter Tryd.func48, Tryd.ntmps48
    go_upto_region 2 with fail
    go_cut [17, 18, 19] (fun s17 s18 s19 wx => s17 = .slice (some ⟨b, off, none⟩) N cp ∧ s18 = .int .i64 N ∧ s19 = .int .i64 0 ∧ w = wx)
    case first =>
      rcases hcase with ⟨hc1, hc2⟩ | ⟨hc1, hc2⟩
      · subst hc2
        have hm1 : (n : Int) ≤ 32 := by omega
        go_wp2
        all_goals first
          | (exfalso; omega)
          | (go_meet; exact ⟨by congr 1; omega, by congr 1; omega, rfl, rfl⟩)
      · subst hc2
        have hm1 : ¬ (n : Int) ≤ 32 := by omega
        have hm2 : (32 : Int) < n := by omega
        go_wp2
        all_goals first
          | (exfalso; omega)
          | (go_meet; exact ⟨by congr 1; omega, by congr 1; omega, rfl, rfl⟩)
    case rest =>
      obtain ⟨rfl, rfl, rfl, rfl⟩ := hcut
      clear hcase hnb hn0
      go_wp2
      go_loopw [19] (fun ii wr => ∃ (i : Nat) (v : Value), i ≤ N ∧ ii = .int .i64 i ∧ Hid (TX w0 wr lb ((l.take i).map rowZ) [] v)) (fun ii _ => N - (intOf ii).toNat)
      case atStart => exact ⟨0, v0, Nat.zero_le _, rfl, HS0⟩
      case round =>
        obtain ⟨i, v, hi, rfl, HS⟩ := hrel
        by_cases hlt : i < N
        · have hii : (i : Int) < N := by omega
          have hil : i < l.length := by have := HN.out; omega
          obtain ⟨Ai, ci, hc0, hri, hcap0⟩ := HCX.out i (by omega)
          have hck := (HS.out.below.cell (p := ⟨b, off + i, none⟩) HBL.out).trans hc0
          obtain ⟨D, hD⟩ : ∃ D, (l.take i).map rowZ = D := ⟨_, rfl⟩
          have HDL : Hid (D.length = i) := Lib.hid (by rw [← hD, List.length_map, List.length_take]; omega)
          have HDN : Hid ((l.take (i + 1)).map rowZ = D ++ [rowZ (l[i]?.getD [])]) := Lib.hid (by rw [take_snocL l i [] hil, List.map_append, hD]; rfl)
          have hr1 := HROW.out (l[i]?.getD []) (by rw [List.getElem?_eq_getElem hil]; exact List.getElem_mem hil)
          rw [hD] at HS
          obtain ⟨r, hr⟩ : ∃ r, l[i]?.getD [] = r := ⟨_, rfl⟩
          rw [hr] at hck hri hr1 HDN hcap0
          clear hD hr hc0
          have HRX : Hid (∀ W, Below lb w0 W → RI W lb Ai r) := Lib.hid fun W hW => hri.below hW
          clear hri HCX HROW HR HS0 HBL
          by_cases hr0 : r.length = 0
          · have hre : r = [] := List.eq_nil_of_length_eq_zero hr0
            have HCL : Hid (Calls Tryd.prog 49 #[.int .i64 i, .int .i64 0, .int .i64 (-1), .pointer (some ⟨lb, 0, none⟩)] wr fun e w' => ∃ v', e = .returned (.tuple #[]) ∧ TX w0 w' lb D ([] ++ [-1]) v') := Lib.hid (by
              have h := text1_any lb D [] (-1) v w0 wr HS.out (by rw [HDL.out]; omega) (by simp) (by omega) (by omega) HT10.out
              rw [HDL.out] at h
              exact h)
            have HE : Hid (∀ w' v', TX w0 w' lb D ([] ++ [-1]) v' → TX w0 w' lb ((l.take (i + 1)).map rowZ) [] v') := Lib.hid fun w' v' h => by
              rw [HDN.out, hre]
              exact h.step (by simp) (by simp)
            rw [hr0] at hck
            clear hr0 hre HS HDN HRX hcap0
            go_wp2_with (go_at_call 49; (with_reducible refine HCL.out.mono ?_); rintro e w3 ⟨v3, rfl, h3⟩; have HS3 := Lib.hid h3; clear h3)
            refine wp_loop_rounds 1 ?_
            rw [rounds_succ]
            go_wp2
            go_roundw
            case rel => exact ⟨i + 1, v3, hlt, by go_num, Lib.hid (HE.out _ _ HS3.out)⟩
            case measure => simp [intOf]; omega
          · obtain ⟨M, hM⟩ : ∃ M, min r.length 8 = M := ⟨_, rfl⟩
            have hMr : M ≤ r.length := by omega
            have hM8 : M ≤ 8 := by omega
            have hMc : (M : Int) ≤ ci := by omega
            have hMc2 : M ≤ ci := by omega
            have hcase2 : (r.length ≤ 8 ∧ r.length = M) ∨ (8 < r.length ∧ 8 = M) := by omega
            have HEND2 : Hid ((r.take M).map clampV = rowZ r ∧ (r.take M).map clampV ≠ []) := Lib.hid (by
              have hre : r ≠ [] := fun e => hr0 (by rw [e]; rfl)
              have e : (r.take M).map clampV = rowZ r := by
                unfold rowZ
                rw [if_neg hre, ← hM, Nat.min_comm, ← List.take_take, List.take_length]
              refine ⟨e, fun h => ?_⟩
              have hl : ((r.take M).map clampV).length = M := by rw [List.length_map, List.length_take]; omega
              rw [h, List.length_nil] at hl
              omega)
            obtain ⟨br, offr, hAi, hbr, _⟩ := HRX.out wr HS.out.below (fun e => hr0 (by rw [e]; rfl))
            subst hAi
            have hrb : ((r.length : Int) == 0) = false := by rw [beq_eq_false_iff_ne]; omega
            have HRC : Hid (∀ W, Below lb w0 W → ∀ k, k < r.length → W.cell? ⟨br, offr + k, none⟩ = some (.int .i64 (r[k]?.getD 0))) := Lib.hid fun W hW k hk => by
              obtain ⟨b2, o2, e, _, h⟩ := HRX.out W hW (fun e => hr0 (by rw [e]; rfl))
              injection e with e
              injection e with e1 e2 _
              subst e1; subst e2
              exact h k hk
            obtain ⟨m, hm⟩ : ∃ m, r.length = m := ⟨_, rfl⟩
            have HML := Lib.hid hm
            rw [hm] at hck hr1 hMr hcase2 hrb
            clear hm hM hr0 HRX hbr hcap0
            go_upto_region 7 with fail
            go_cut [34, 35, 36] (fun s34 s35 s36 wx => s34 = .slice (some ⟨br, offr, none⟩) M ci ∧ s35 = .int .i64 M ∧ s36 = .int .i64 0 ∧ wr = wx)
            case first =>
              rcases hcase2 with ⟨hc1, hc2⟩ | ⟨hc1, hc2⟩
              · subst hc2
                have hm1 : (m : Int) ≤ 8 := by omega
                go_wp2
                all_goals first
                  | (exfalso; omega)
                  | (go_meet; exact ⟨by congr 1; omega, by congr 1; omega, rfl, rfl⟩)
              · subst hc2
                have hm2 : (8 : Int) < m := by omega
                go_wp2
                all_goals first
                  | (exfalso; omega)
                  | (go_meet; exact ⟨by congr 1; omega, by congr 1; omega, rfl, rfl⟩)
            case rest =>
              obtain ⟨rfl, rfl, rfl, rfl⟩ := hcut
              clear hcase2 hrb hck
              go_wp2
              go_loopw [36] (fun jj wr => ∃ (j : Nat) (v : Value), j ≤ M ∧ jj = .int .i64 j ∧ Hid (TX w0 wr lb D ((r.take j).map clampV) v)) (fun jj _ => M - (intOf jj).toNat)
              case atStart => exact ⟨0, v, Nat.zero_le _, rfl, HS⟩
              case round =>
                clear HS
                obtain ⟨j, v, hj, rfl, HS⟩ := hrel
                by_cases hjt : j < M
                · have hji : (j : Int) < M := by omega
                  have hjr : j < r.length := by have := HML.out; omega
                  have hckj := HRC.out wr HS.out.below j hjr
                  obtain ⟨P, hP⟩ : ∃ P, (r.take j).map clampV = P := ⟨_, rfl⟩
                  have HPL : Hid (P.length = j) := Lib.hid (by rw [← hP, List.length_map, List.length_take]; omega)
                  have HPN : Hid ((r.take (j + 1)).map clampV = P ++ [clampV (r[j]?.getD 0)]) := Lib.hid (by rw [take_snocL r j 0 hjr, List.map_append, hP]; rfl)
                  rw [hP] at HS
                  obtain ⟨x, hx⟩ : ∃ x, r[j]?.getD 0 = x := ⟨_, rfl⟩
                  rw [hx] at hckj HPN
                  clear hP hx
                  have HCL : Hid (∀ z, -1 ≤ z → z ≤ 65535 → Calls Tryd.prog 49 #[.int .i64 i, .int .i64 j, .int .i64 z, .pointer (some ⟨lb, 0, none⟩)] wr fun e w' => ∃ v', e = .returned (.tuple #[]) ∧ TX w0 w' lb D (P ++ [z]) v') := Lib.hid fun z hz0 hz1 => (by
                    have h := text1_any lb D P z v w0 wr HS.out (by rw [HDL.out]; omega) (by rw [HPL.out]; omega) hz0 hz1 HT10.out
                    rw [HDL.out, HPL.out] at h
                    exact h)
                  have HKEY : Hid (∀ w' v' z, clampV x = z → TX w0 w' lb D (P ++ [z]) v' → Hid (TX w0 w' lb D (P ++ [clampV x]) v')) := Lib.hid fun w' v' z e h => Lib.hid (by rw [e]; exact h)
                  clear HS
                  go_wp2_with (go_at_call 49; (with_reducible refine (HCL.out _ (by omega) (by omega)).mono ?_); rintro e w3 ⟨v3, rfl, h3⟩; have HS3 := Lib.hid h3; clear h3)
                  all_goals
                    go_roundw
                    case rel => exact ⟨j + 1, v3, hjt, by go_num, by rw [HPN.out]; exact HKEY.out _ v3 _ (by unfold clampV; omega) HS3.out⟩
                    case measure => simp [intOf]; omega
                · obtain rfl : j = M := by omega
                  have HSS : Hid (TX w0 wr lb ((l.take (i + 1)).map rowZ) [] v) := Lib.hid (by
                    rw [HDN.out, ← HEND2.out.1]
                    exact HS.out.step HEND2.out.2 (by rw [List.length_map, List.length_take]; omega))
                  clear HS HRC HEND2 HDN
                  go_wp2
                  go_roundw
                  case rel => exact ⟨i + 1, v, hlt, by go_num, HSS⟩
                  case measure => simp [intOf]; omega
        · obtain rfl : i = N := by omega
          have HE : Hid (TX w0 wr lb (cleanL l) [] v) := Lib.hid (by rw [← HEND.out]; exact HS.out)
          clear HS HCX HROW HR HBL
          go_wp2
          go_end0
          exact ⟨v, rfl, HE.out⟩

set_option maxRecDepth 100000 in
theorem conv_own {w : World} {B n c : Nat} {A : Option Addr} {T : List UInt8} (h : w.ownsRow B 5 1 (.slice A n c) n (Lib.byteCells T)) (hn : n = T.length) :
    (Go.convert 59 9 (.slice A n c)).run Tryd.prog w = .ok (.string (bsB T)) w := by
  subst hn
  by_cases hz : T = []
  · subst hz
    rw [List.length_nil, run_convert_bytes_string w _ _ 5 A 0 c (by kernel_rfl) (by kernel_rfl) (by kernel_rfl)]
    cases A <;> rfl
  · obtain ⟨A', c', e, hA⟩ := own_form h
    injection e with e1 _ _
    subst e1
    obtain ⟨g, rfl⟩ := hA (List.length_pos_iff.2 hz)
    exact run_convert_bytes_back (P := Tryd.prog) w 59 9 5 ⟨g, 0, none⟩ c T (by kernel_rfl) (by kernel_rfl) (by kernel_rfl) (fun j hj => by
      have ea : (⟨g, 0, none⟩ : Addr).add j = ⟨g, j, none⟩ := by
        unfold Addr.add
        split <;> simp_all
      rw [ea, h.cellAt j (by omega), Lib.byteCells, List.getElem?_map, List.getElem?_eq_getElem hj]
      rfl)
set_option maxHeartbeats 1000000 in
set_option maxRecDepth 100000 in
theorem text_any (A : Option Addr) (l : List (List Int)) (n cp : Nat) (hn : n = l.length) (hcap : n ≤ cp) (h1 : n ≤ 1000) (hrow : ∀ r ∈ l, r.length ≤ 1000) (w : World) (hR : RG w w.heap.size A l) (hT : T10 w.heap.size w) :
    Calls Tryd.prog 35 #[.slice A n cp] w fun e w' => e = .returned (.string (bsB (textT (cleanL l)))) ∧ Below w.heap.size w w' := by
  have hS : TX w (w.alloc (.cells #[.slice none 0 0] 59)) w.heap.size [] [] (.slice none 0 0) := ⟨⟨belA (Below.refl _ _) _, heap_alloc_new w _, World.ownsRow_nil _ _ _ _⟩, by simp, by simp⟩
  have HE := Lib.hid (eachT_any A l n cp w.heap.size hn hcap h1 hrow w _ _ hR hS hT)
  have HF : Hid (∀ w2 v, TX w w2 w.heap.size (cleanL l) [] v → w2.cell? ⟨w.heap.size, 0, none⟩ = some v ∧ ∃ A m c, v = .slice A m c ∧ (Go.convert 59 9 (.slice A m c)).run Tryd.prog w2 = .ok (.string (bsB (textT (cleanL l)))) w2 ∧ Below w.heap.size w w2) := Lib.hid fun w2 v h => by
    have ho := h.bi.own
    have ea : accT (cleanL l) [] = textT (cleanL l) := by simp [accT, rowT]
    rw [ea] at ho
    obtain ⟨A, c, rfl, _⟩ := own_form ho
    exact ⟨cell_of_one h.bi.cell, A, _, c, rfl, conv_own ho rfl, h.bi.below⟩
  clear hn hcap h1 hrow hR hS hT
  generalize textT (cleanL l) = T at *
  generalize cleanL l = L at *
  go_enter Tryd.func35, Tryd.ntmps35
  go_wp2_with (go_at_call 48; (with_reducible refine HE.out.mono ?_); rintro e w2 ⟨v2, rfl, h2⟩; obtain ⟨hc2, A2, m2, c2, rfl, hcv2, hb2⟩ := HF.out w2 v2 h2; have HB2 := Lib.hid hb2; clear h2 hb2)
  go_ret
  exact ⟨rfl, HB2.out⟩

end Go.Proofs.YtlolbfbkoimjkaaDoor
