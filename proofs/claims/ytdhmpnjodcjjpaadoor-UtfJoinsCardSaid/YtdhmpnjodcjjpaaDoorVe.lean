/- The walk of the law UtfEnds. -/
import Derived.Test.YtdhmpnjodcjjpaaDoorVd
import Derived.Test.YtdhmpnjodcjjpaaDoorUn
namespace Go.Proofs.YtdhmpnjodcjjpaaDoor
open Go.RowKit Go.Shelf

theorem grown_set {w : World} (D i : Nat) (v : Value) (o : Obj) : w.grownBy ((w.setCell ⟨D, i, none⟩ v).alloc o) (some D) :=
  ⟨rfl, rfl, rfl, by simp, fun k hk hne => by
    have h1 : ((w.setCell ⟨D, i, none⟩ v).alloc o).heap[k]? = (w.setCell ⟨D, i, none⟩ v).heap[k]? := ((Below.refl _ _).alloc (Nat.le_refl _) o).block k (by rw [World.size_setCell]; exact hk)
    rw [h1]
    exact heap_setCell_other w ⟨D, i, none⟩ k v (fun e => hne (by rw [e]))⟩
theorem dec_end {w : World} {D : Nat} {ps : List Nat} (h : DecL w D ps) (o : Obj) : DecL ((w.setCell ⟨D, 4, none⟩ (.int .i64 0)).alloc o) D [] := by
  have hD := h.lt
  have hc : ∀ k, ((w.setCell ⟨D, 4, none⟩ (.int .i64 0)).alloc o).cell? ⟨D, k, none⟩ = (w.setCell ⟨D, 4, none⟩ (.int .i64 0)).cell? ⟨D, k, none⟩ := fun k => ((Below.refl _ _).alloc (Nat.le_refl _) o).cell (p := ⟨D, k, none⟩) (by rw [World.size_setCell]; exact hD)
  have hf : ∀ k, ((w.setCell ⟨D, 4, none⟩ (.int .i64 0)).alloc o).frozen? ⟨D, k, none⟩ = (w.setCell ⟨D, 4, none⟩ (.int .i64 0)).frozen? ⟨D, k, none⟩ := fun k => ((Below.refl _ _).alloc (Nat.le_refl _) o).frozen (p := ⟨D, k, none⟩) (by rw [World.size_setCell]; exact hD)
  refine ⟨by simp; omega, by simp, by simp, ?_, fun k hk => by simp at hk, fun k hk => ?_, fun k hk => ?_⟩
  · rw [hc]; exact World.cell?_setCell_same _ _ _ h.left
  · rw [hc, World.cell?_setCell_other _ _ _ _ (by simp; try omega)]; exact h.room k hk
  · rw [hf, World.frozen?_setCell]; exact h.free k hk
theorem all_none (zs : List Nat) (h : waitL zs = 0) : intsOf (allL zs) = intsOf ((rdL zs).map (·.1)) := by
  unfold waitL at h
  unfold allL
  rw [if_neg (by omega), List.append_nil]
theorem all_wait (zs : List Nat) (h : 0 < waitL zs) : (intsOf (allL zs)).map (Value.int .i32) = (rdL zs).map encR ++ [.int .i32 65533] := by
  unfold waitL at h
  unfold allL
  rw [if_pos (by omega), rd_intsOf]
  simp [intsOf]
theorem all_wait_len (zs : List Nat) (h : 0 < waitL zs) : (allL zs).length = (rdL zs).length + 1 := by
  unfold waitL at h
  unfold allL
  rw [if_pos (by omega), List.length_append, List.length_map]
  rfl
theorem all_none_len (zs : List Nat) (h : waitL zs = 0) : (allL zs).length = (rdL zs).length := by
  unfold waitL at h
  unfold allL
  rw [if_neg (by omega), List.append_nil, List.length_map]

set_option maxRecDepth 100000 in
set_option maxHeartbeats 8000000 in
theorem utfEnds_law (Aa : Option Addr) (za : List Nat) (na ca : Nat) (hna : na = za.length) (hcapa : na ≤ ca) (h63a : ca ≤ 9223372036854775807) (Ab : Option Addr) (zb : List Nat) (nb cb : Nat) (hnb : nb = zb.length) (hcapb : nb ≤ cb) (h63b : cb ≤ 9223372036854775807) (w : World) (h4 : max 0 1 + 1 ≤ w.heap.size) (hT : UT w) (hRa : BS w w.heap.size Aa za) (hRb : BS w w.heap.size Ab zb) :
    Calls Tryd.prog 7 #[.slice Aa na ca, .slice Ab nb cb] w fun e w' => e = .returned (.bool true) ∧ Below w.heap.size w w' := by
  obtain ⟨i0, hi, hz0, hz1, hz2⟩ := info_parts Tryd.infoRune
  have HA := awake_hid h4 hT
  by_cases hl : 200 < na
  · have hli : (200 : Int) < na := by omega
    clear hna hcapa hRa hnb hcapb hRb hT
    go_enter Tryd.func7, Tryd.ntmps7
    go_wp2_with (go_at_call 10; refine (HA.out _ (Below.refl _ _)).mono ?_; rintro e w1 ⟨rfl, hb1⟩)
    go_ret
    exact ⟨rfl, hb1⟩
  by_cases hl' : 200 < nb
  · have hli : ¬ (200 : Int) < na := by omega
    have hli' : (200 : Int) < nb := by omega
    clear hna hcapa hRa hnb hcapb hRb hT
    go_enter Tryd.func7, Tryd.ntmps7
    go_wp2_with (go_at_call 10; refine (HA.out _ (Below.refl _ _)).mono ?_; rintro e w1 ⟨rfl, hb1⟩)
    go_ret
    exact ⟨rfl, hb1⟩
  have hli : ¬ (200 : Int) < na := by omega
  have hli' : ¬ (200 : Int) < nb := by omega
  have hda : decide ((200 : Int) < na) = false := decide_eq_false hli
  have hdb : decide ((200 : Int) < nb) = false := decide_eq_false hli'
  have HT : Hid (∀ W, Below w.heap.size w W → UT W) := Lib.hid fun W hW => hT.below hW
  have HRa := Lib.hid hRa
  have HRb := Lib.hid hRb
  have HNa := Lib.hid hna
  have HNb := Lib.hid hnb
  have H4 := Lib.hid h4
  have HDEC := Lib.hid (dec_new w)
  clear hna hnb hRa hRb hT
  go_enter Tryd.func7, Tryd.ntmps7
  go_wp2
  go_loopw [6] (fun q wr => ∃ k : Nat, k ≤ 2 ∧ q = .int .i64 k ∧ Hid (DecL wr w.heap.size []) ∧ Hid (Below w.heap.size w wr)) (fun q _ => 2 - (intOf q).toNat)
  case atStart => exact ⟨0, by omega, rfl, HDEC, Lib.hid ((Below.refl _ _).alloc (Nat.le_refl _) _)⟩
  case round =>
    obtain ⟨q, hq, rfl, HDo, HBo⟩ := hrel
    rcases (by omega : q = 0 ∨ q = 1 ∨ q = 2) with rfl | rfl | rfl
    · clear hq
      rw [show ((0 : Nat) : Int) = 0 from rfl]
      obtain ⟨wo, rfl⟩ : ∃ wo : World, wo = wr := ⟨_, rfl⟩
      go_wp2
      go_loopw [8, 9] (fun o i wr => ∃ (k : Nat) (vo : Value), vo = o ∧ k ≤ na ∧ i = .int .i64 k ∧ Hid (DecL wr w.heap.size (restL (za.take k))) ∧ Hid (wr.ownsRow (w.heap.size + 1) 21 1 vo (rdL (za.take k)).length ((rdL (za.take k)).map encR)) ∧ Hid (Below w.heap.size w wr)) (fun _ i _ => na - (intOf i).toNat)
      case atStart => exact ⟨0, _, rfl, Nat.zero_le _, rfl, HDo, Lib.hid (World.ownsRow_nil _ _ _ _), HBo⟩
      case round =>
        obtain ⟨k, vo, rfl, hkn, rfl, HD, HO, HB⟩ := hrel
        by_cases hlt : k < na
        · have hkz : k < za.length := by rw [← HNa.out]; exact hlt
          obtain ⟨b, off, rfl, hbl, hc⟩ := HRa.out.2 (by rintro rfl; simp at hkz)
          have hck := (HB.out.cell (p := ⟨b, off + k, none⟩) hbl).trans (hc k hkz)
          obtain ⟨e1, e2⟩ := rest_snoc (za.take k) (za[k]?.getD 0) (fun x hx => by
            rw [← take_snocN za k hkz] at hx
            exact HRa.out.1 x (List.mem_of_mem_take hx))
          rw [← take_snocN za k hkz] at e1 e2
          have hz8 : za[k]?.getD 0 < 256 := by rw [List.getElem?_eq_getElem hkz]; exact HRa.out.1 _ (List.getElem_mem _)
          have hst := step_any w.heap.size (za[k]?.getD 0) (restL (za.take k)) hz8 wr HD.out (HT.out wr HB.out) (Nat.le_trans H4.out HB.out.size) (by have := H4.out; omega) (by have := H4.out; omega)
          have hki : (k : Int) < na := by omega
          have htl : (za.take (k + 1)).length = k + 1 := by rw [List.length_take]; omega
          have hrl := rdL_len (za.take (k + 1))
          rw [htl] at hrl
          have hll : (rdL (za.take k)).length + (rdL (restL (za.take k) ++ [za[k]?.getD 0])).length ≤ k + 1 := by
            have := congrArg List.length e1
            rw [List.length_append] at this
            omega
          have hm1 : (rdL (za.take k)).length + (rdL (restL (za.take k) ++ [za[k]?.getD 0])).length ≤ maxLen := by unfold maxLen; omega
          have hm2 : ((rdL (za.take k)).length + (rdL (restL (za.take k) ++ [za[k]?.getD 0])).length) * 4 ≤ 140737488355328 := by omega
          have HE1 := Lib.hid e1
          have HE2 := Lib.hid e2
          unfold StepPost at hst
          clear hc hbl e1 e2 htl hkz hrl
          generalize za[k]?.getD 0 = z at *
          go_wp2_with (first
            | (go_at_call 20; (with_reducible refine hst.mono ?_); clear hst; rintro e w1 ⟨v1, rfl, ho1, hd1, hg1⟩; obtain ⟨A1, c1, rfl, hA1, hA1'⟩ := own_form2 ho1; have HO1 := Lib.hid ho1; have HD1 := Lib.hid hd1; have HG1 := Lib.hid hg1; have HA1 := Lib.hid hA1; clear ho1 hd1 hg1 hA1 hA1')
            | (at_builtin; go_must (refine wpList_append_lot _ rfl (.tmp 33) (.tmp 38) 25 rfl (w.heap.size + 1) 21 i0 (.int .i32 0) 1 4 Tryd.underlying25 hi hz0 hz1 hz2 rfl (by decide) vo (rdL (za.take k)).length ((rdL (za.take k)).map encR) rfl (owns_past HO.out (Nat.lt_succ_self _) HG1.out) A1 (rdL (restL (za.take k) ++ [z])).length c1 ((rdL (restL (za.take k) ++ [z])).map encR) rfl HA1.out (by rw [List.length_map, Nat.mul_one]) (own_news HO1.out) (encR_one _) hm1 hm2 HD1.out.lt ?_; intro v2 w2 hown2 hgrow2; have HO2 : Hid (w2.ownsRow (w.heap.size + 1) 21 1 v2 (rdL (za.take (k + 1))).length ((rdL (za.take (k + 1))).map encR)) := Lib.hid (by rw [HE1.out, List.length_append, List.map_append]; exact hown2); have HD2 : Hid (DecL w2 w.heap.size (restL (za.take (k + 1)))) := Lib.hid (by rw [HE2.out]; exact HD1.out.kept hgrow2 (fun e => by have := ((owns_past HO.out (Nat.lt_succ_self _) HG1.out).lt _ e).1; omega)); have HB2 : Hid (Below w.heap.size w w2) := Lib.hid ((HB.out.grown HG1.out HB.out.size (fun k e => by cases e; exact Nat.le_refl _)).grown hgrow2 (Nat.le_trans HB.out.size HG1.out.size) (fun k e => Nat.le_of_succ_le ((owns_past HO.out (Nat.lt_succ_self _) HG1.out).lt k e).1)); clear hown2 hgrow2)))
          go_roundw
          case rel => exact ⟨k + 1, _, rfl, by omega, by go_num, HD2, HO2, HB2⟩
          case measure => simp [intOf]; omega
        · obtain rfl : k = na := by omega
          have htk : za.take k = za := List.take_of_length_le (by rw [← HNa.out]; exact Nat.le_refl _)
          rw [htk] at HD HO
          clear htk
          have hrl := rdL_len za
          rw [← HNa.out] at hrl
          have HAL : Hid (∀ W, Below w.heap.size w W → Calls Tryd.prog 13 #[.slice Aa k ca] W (AllRS za W)) := Lib.hid fun W hW => refAll_rs Aa za k ca HNa.out (by omega) (by omega) (by omega) W ((HRa.out.below hW).more hW.size)
          have HS : Hid (∀ (W : World) (A1 A2 : Option Addr) (c1 c2 : Nat), RS W W.heap.size A1 (intsOf (allL za)) → RS W W.heap.size A2 (intsOf (allL za)) → Calls Tryd.prog 11 #[.slice A1 (allL za).length c1, .slice A2 (allL za).length c2] W fun e w' => e = .returned (.bool true) ∧ Below W.heap.size W w') := Lib.hid fun W A1 A2 c1 c2 r1 r2 => by
            have hll : (allL za).length ≤ 9223372036854775807 := by
              unfold allL
              rw [List.length_append, List.length_map]
              split <;> simp <;> omega
            have := same_any A1 A2 _ _ (allL za).length (allL za).length c1 c2 (by simp [intsOf]) (by simp [intsOf]) hll W r1 r2
            rw [sameB_refl] at this
            exact this
          unfold AllRS at HAL
          have hDl : wr.cell? ⟨w.heap.size, 4, none⟩ = some (.int .i64 (waitL za : Nat)) := by rw [← rest_len]; exact HD.out.left
          rcases Nat.eq_zero_or_pos (waitL za) with h0 | h0
          · rw [h0] at hDl
            have hE1 := end_0 w.heap.size wr hDl
            have hn1 : (rdL za).length + 0 ≤ maxLen := by unfold maxLen; omega
            have hn2 : ((rdL za).length + 0) * 4 ≤ 140737488355328 := by omega
            have HLEN := Lib.hid (all_none_len za h0)
            have HINT := Lib.hid (all_none za h0)
            have HDn : Hid (restL za = []) := Lib.hid (List.length_eq_zero_iff.1 (by rw [rest_len]; exact h0))
            have hsz := HD.out.lt
            clear hDl h0
            go_wp2_with (first
              | (go_at_call 23; (with_reducible refine hE1.mono ?_); clear hE1; rintro e w1 ⟨rfl, rfl⟩)
              | (at_builtin; go_must (refine wpList_append_lot _ rfl (.tmp 40) (.tmp 41) 25 rfl (w.heap.size + 1) 21 i0 (.int .i32 0) 1 4 Tryd.underlying25 hi hz0 hz1 hz2 rfl (by decide) vo (rdL za).length ((rdL za).map encR) rfl HO.out none 0 0 [] rfl (fun _ => ⟨rfl, rfl⟩) rfl (fun _ e => by cases e) (by simp) hn1 hn2 hsz ?_; intro v2 w2 hown2 hgrow2; have hO2 : w2.ownsRow (w.heap.size + 1) 21 1 v2 (allL za).length ((intsOf (allL za)).map (Value.int .i32)) := (by rw [HLEN.out, HINT.out, ← rd_intsOf]; simpa using hown2); have HD2 : Hid (DecL w2 w.heap.size []) := Lib.hid (by rw [← HDn.out]; exact HD.out.kept hgrow2 (fun e => by have := (HO.out.lt _ e).1; omega)); have HB2 : Hid (Below w.heap.size w w2) := Lib.hid (HB.out.grown hgrow2 HB.out.size (fun k e => Nat.le_of_succ_le (HO.out.lt k e).1)); obtain ⟨A2, c2, rfl, _, _⟩ := own_form2 hO2; have HR2 : Hid (RS w2 w2.heap.size A2 (intsOf (allL za))) := Lib.hid (RS.of_own hO2); clear hown2 hgrow2 hO2))
              | (go_at_call 13; (with_reducible refine (HAL.out _ HB2.out).mono ?_); rintro e w5 ⟨A5, c5, rfl, hr5, hb5⟩; have HR5 := Lib.hid hr5; have HR25 := Lib.hid ((HR2.out.below hb5).more hb5.size); have HB5 := Lib.hid (bel0 HB2.out hb5); clear hr5)
              | (go_at_call 11; (with_reducible refine (HS.out _ _ _ _ _ HR25.out HR5.out).mono ?_); rintro e w6 ⟨rfl, hb6⟩; have HB6 := Lib.hid (bel0 HB5.out hb6); have HD6 := Lib.hid ((HD2.out.below hb5).below hb6); have hlf := left_any w.heap.size 0 w6 HD6.out.left; have hE2 := end_0 w.heap.size w6 HD6.out.left)
              | (go_at_call 22; (with_reducible refine hlf.mono ?_); clear hlf; rintro e w7 ⟨rfl, rfl⟩)
              | (go_at_call 23; (with_reducible refine hE2.mono ?_); clear hE2; rintro e w8 ⟨rfl, rfl⟩))
            go_roundw
            case rel => exact ⟨0 + 1, by omega, rfl, HD6, HB6⟩
            case measure => simp [intOf]
          · have hE1 := end_pos w.heap.size (waitL za) h0 wr hDl (HD.out.free 4 (by omega))
            have hn1 : (rdL za).length + 1 ≤ maxLen := by unfold maxLen; omega
            have hn2 : ((rdL za).length + 1) * 4 ≤ 140737488355328 := by omega
            have HLEN := Lib.hid (all_wait_len za h0)
            have HINT := Lib.hid (all_wait za h0)
            have HDe := Lib.hid (dec_end HD.out (.cells #[.int .i32 65533] 21))
            have HGe : Hid (wr.grownBy ((wr.setCell ⟨w.heap.size, 4, none⟩ (.int .i64 0)).alloc (.cells #[.int .i32 65533] 21)) (some w.heap.size)) := Lib.hid (grown_set _ _ _ _)
            have hnews : ∀ (j : Nat) (u : Value), [Value.int .i32 65533][j]? = some u → ((wr.setCell ⟨w.heap.size, 4, none⟩ (.int .i64 0)).alloc (.cells #[.int .i32 65533] 21)).cell? ((⟨wr.heap.size, 0, none⟩ : Addr).add j) = some u := fun j u hj => by
              have := cell_one_new (wr.setCell ⟨w.heap.size, 4, none⟩ (.int .i64 0)) (.int .i32 65533) 21 j u hj
              rw [World.size_setCell] at this
              exact this
            have HNW := Lib.hid hnews
            have hsz := HDe.out.lt
            have HSZ : Hid (w.heap.size + 1 ≤ ((wr.setCell ⟨w.heap.size, 4, none⟩ (.int .i64 0)).alloc (.cells #[.int .i32 65533] 21)).heap.size) := Lib.hid hsz
            clear hDl h0 hnews hsz
            go_wp2_with (first
              | (go_at_call 23; (with_reducible refine hE1.mono ?_); clear hE1; rintro e w1 ⟨rfl, rfl⟩)
              | (at_builtin; go_must (refine wpList_append_lot _ rfl (.tmp 40) (.tmp 41) 25 rfl (w.heap.size + 1) 21 i0 (.int .i32 0) 1 4 Tryd.underlying25 hi hz0 hz1 hz2 rfl (by decide) vo (rdL za).length ((rdL za).map encR) rfl (owns_past HO.out (Nat.lt_succ_self _) HGe.out) (some ⟨wr.heap.size, 0, none⟩) 1 1 [.int .i32 65533] rfl (fun e => by cases e) rfl (fun ad e => by cases e; exact HNW.out) (by simp [Value.oneCell']) hn1 hn2 HSZ.out ?_; intro v2 w2 hown2 hgrow2; have hO2 : w2.ownsRow (w.heap.size + 1) 21 1 v2 (allL za).length ((intsOf (allL za)).map (Value.int .i32)) := (by rw [HLEN.out, HINT.out]; exact hown2); have HD2 : Hid (DecL w2 w.heap.size []) := Lib.hid (HDe.out.kept hgrow2 (fun e => by have := ((owns_past HO.out (Nat.lt_succ_self _) HGe.out).lt _ e).1; omega)); have HB2 : Hid (Below w.heap.size w w2) := Lib.hid ((HB.out.grown HGe.out HB.out.size (fun k e => by cases e; exact Nat.le_refl _)).grown hgrow2 (Nat.le_of_succ_le HSZ.out) (fun k e => Nat.le_of_succ_le ((owns_past HO.out (Nat.lt_succ_self _) HGe.out).lt k e).1)); obtain ⟨A2, c2, rfl, _, _⟩ := own_form2 hO2; have HR2 : Hid (RS w2 w2.heap.size A2 (intsOf (allL za))) := Lib.hid (RS.of_own hO2); clear hown2 hgrow2 hO2))
              | (go_at_call 13; (with_reducible refine (HAL.out _ HB2.out).mono ?_); rintro e w5 ⟨A5, c5, rfl, hr5, hb5⟩; have HR5 := Lib.hid hr5; have HR25 := Lib.hid ((HR2.out.below hb5).more hb5.size); have HB5 := Lib.hid (bel0 HB2.out hb5); clear hr5)
              | (go_at_call 11; (with_reducible refine (HS.out _ _ _ _ _ HR25.out HR5.out).mono ?_); rintro e w6 ⟨rfl, hb6⟩; have HB6 := Lib.hid (bel0 HB5.out hb6); have HD6 := Lib.hid ((HD2.out.below hb5).below hb6); have hlf := left_any w.heap.size 0 w6 HD6.out.left; have hE2 := end_0 w.heap.size w6 HD6.out.left)
              | (go_at_call 22; (with_reducible refine hlf.mono ?_); clear hlf; rintro e w7 ⟨rfl, rfl⟩)
              | (go_at_call 23; (with_reducible refine hE2.mono ?_); clear hE2; rintro e w8 ⟨rfl, rfl⟩))
            go_roundw
            case rel => exact ⟨0 + 1, by omega, rfl, HD6, HB6⟩
            case measure => simp [intOf]
    · clear hq
      rw [show ((1 : Nat) : Int) = 1 from rfl]
      obtain ⟨wo, rfl⟩ : ∃ wo : World, wo = wr := ⟨_, rfl⟩
      go_wp2
      go_loopw [8, 9] (fun o i wr => ∃ (k : Nat) (vo : Value), vo = o ∧ k ≤ nb ∧ i = .int .i64 k ∧ Hid (DecL wr w.heap.size (restL (zb.take k))) ∧ Hid (wr.ownsRow (w.heap.size + 1) 21 1 vo (rdL (zb.take k)).length ((rdL (zb.take k)).map encR)) ∧ Hid (Below w.heap.size w wr)) (fun _ i _ => nb - (intOf i).toNat)
      case atStart => exact ⟨0, _, rfl, Nat.zero_le _, rfl, HDo, Lib.hid (World.ownsRow_nil _ _ _ _), HBo⟩
      case round =>
        obtain ⟨k, vo, rfl, hkn, rfl, HD, HO, HB⟩ := hrel
        by_cases hlt : k < nb
        · have hkz : k < zb.length := by rw [← HNb.out]; exact hlt
          obtain ⟨b, off, rfl, hbl, hc⟩ := HRb.out.2 (by rintro rfl; simp at hkz)
          have hck := (HB.out.cell (p := ⟨b, off + k, none⟩) hbl).trans (hc k hkz)
          obtain ⟨e1, e2⟩ := rest_snoc (zb.take k) (zb[k]?.getD 0) (fun x hx => by
            rw [← take_snocN zb k hkz] at hx
            exact HRb.out.1 x (List.mem_of_mem_take hx))
          rw [← take_snocN zb k hkz] at e1 e2
          have hz8 : zb[k]?.getD 0 < 256 := by rw [List.getElem?_eq_getElem hkz]; exact HRb.out.1 _ (List.getElem_mem _)
          have hst := step_any w.heap.size (zb[k]?.getD 0) (restL (zb.take k)) hz8 wr HD.out (HT.out wr HB.out) (Nat.le_trans H4.out HB.out.size) (by have := H4.out; omega) (by have := H4.out; omega)
          have hki : (k : Int) < nb := by omega
          have htl : (zb.take (k + 1)).length = k + 1 := by rw [List.length_take]; omega
          have hrl := rdL_len (zb.take (k + 1))
          rw [htl] at hrl
          have hll : (rdL (zb.take k)).length + (rdL (restL (zb.take k) ++ [zb[k]?.getD 0])).length ≤ k + 1 := by
            have := congrArg List.length e1
            rw [List.length_append] at this
            omega
          have hm1 : (rdL (zb.take k)).length + (rdL (restL (zb.take k) ++ [zb[k]?.getD 0])).length ≤ maxLen := by unfold maxLen; omega
          have hm2 : ((rdL (zb.take k)).length + (rdL (restL (zb.take k) ++ [zb[k]?.getD 0])).length) * 4 ≤ 140737488355328 := by omega
          have HE1 := Lib.hid e1
          have HE2 := Lib.hid e2
          unfold StepPost at hst
          clear hc hbl e1 e2 htl hkz hrl
          generalize zb[k]?.getD 0 = z at *
          go_wp2_with (first
            | (go_at_call 20; (with_reducible refine hst.mono ?_); clear hst; rintro e w1 ⟨v1, rfl, ho1, hd1, hg1⟩; obtain ⟨A1, c1, rfl, hA1, hA1'⟩ := own_form2 ho1; have HO1 := Lib.hid ho1; have HD1 := Lib.hid hd1; have HG1 := Lib.hid hg1; have HA1 := Lib.hid hA1; clear ho1 hd1 hg1 hA1 hA1')
            | (at_builtin; go_must (refine wpList_append_lot _ rfl (.tmp 33) (.tmp 38) 25 rfl (w.heap.size + 1) 21 i0 (.int .i32 0) 1 4 Tryd.underlying25 hi hz0 hz1 hz2 rfl (by decide) vo (rdL (zb.take k)).length ((rdL (zb.take k)).map encR) rfl (owns_past HO.out (Nat.lt_succ_self _) HG1.out) A1 (rdL (restL (zb.take k) ++ [z])).length c1 ((rdL (restL (zb.take k) ++ [z])).map encR) rfl HA1.out (by rw [List.length_map, Nat.mul_one]) (own_news HO1.out) (encR_one _) hm1 hm2 HD1.out.lt ?_; intro v2 w2 hown2 hgrow2; have HO2 : Hid (w2.ownsRow (w.heap.size + 1) 21 1 v2 (rdL (zb.take (k + 1))).length ((rdL (zb.take (k + 1))).map encR)) := Lib.hid (by rw [HE1.out, List.length_append, List.map_append]; exact hown2); have HD2 : Hid (DecL w2 w.heap.size (restL (zb.take (k + 1)))) := Lib.hid (by rw [HE2.out]; exact HD1.out.kept hgrow2 (fun e => by have := ((owns_past HO.out (Nat.lt_succ_self _) HG1.out).lt _ e).1; omega)); have HB2 : Hid (Below w.heap.size w w2) := Lib.hid ((HB.out.grown HG1.out HB.out.size (fun k e => by cases e; exact Nat.le_refl _)).grown hgrow2 (Nat.le_trans HB.out.size HG1.out.size) (fun k e => Nat.le_of_succ_le ((owns_past HO.out (Nat.lt_succ_self _) HG1.out).lt k e).1)); clear hown2 hgrow2)))
          go_roundw
          case rel => exact ⟨k + 1, _, rfl, by omega, by go_num, HD2, HO2, HB2⟩
          case measure => simp [intOf]; omega
        · obtain rfl : k = nb := by omega
          have htk : zb.take k = zb := List.take_of_length_le (by rw [← HNb.out]; exact Nat.le_refl _)
          rw [htk] at HD HO
          clear htk
          have hrl := rdL_len zb
          rw [← HNb.out] at hrl
          have HAL : Hid (∀ W, Below w.heap.size w W → Calls Tryd.prog 13 #[.slice Ab k cb] W (AllRS zb W)) := Lib.hid fun W hW => refAll_rs Ab zb k cb HNb.out (by omega) (by omega) (by omega) W ((HRb.out.below hW).more hW.size)
          have HS : Hid (∀ (W : World) (A1 A2 : Option Addr) (c1 c2 : Nat), RS W W.heap.size A1 (intsOf (allL zb)) → RS W W.heap.size A2 (intsOf (allL zb)) → Calls Tryd.prog 11 #[.slice A1 (allL zb).length c1, .slice A2 (allL zb).length c2] W fun e w' => e = .returned (.bool true) ∧ Below W.heap.size W w') := Lib.hid fun W A1 A2 c1 c2 r1 r2 => by
            have hll : (allL zb).length ≤ 9223372036854775807 := by
              unfold allL
              rw [List.length_append, List.length_map]
              split <;> simp <;> omega
            have := same_any A1 A2 _ _ (allL zb).length (allL zb).length c1 c2 (by simp [intsOf]) (by simp [intsOf]) hll W r1 r2
            rw [sameB_refl] at this
            exact this
          unfold AllRS at HAL
          have hDl : wr.cell? ⟨w.heap.size, 4, none⟩ = some (.int .i64 (waitL zb : Nat)) := by rw [← rest_len]; exact HD.out.left
          rcases Nat.eq_zero_or_pos (waitL zb) with h0 | h0
          · rw [h0] at hDl
            have hE1 := end_0 w.heap.size wr hDl
            have hn1 : (rdL zb).length + 0 ≤ maxLen := by unfold maxLen; omega
            have hn2 : ((rdL zb).length + 0) * 4 ≤ 140737488355328 := by omega
            have HLEN := Lib.hid (all_none_len zb h0)
            have HINT := Lib.hid (all_none zb h0)
            have HDn : Hid (restL zb = []) := Lib.hid (List.length_eq_zero_iff.1 (by rw [rest_len]; exact h0))
            have hsz := HD.out.lt
            clear hDl h0
            go_wp2_with (first
              | (go_at_call 23; (with_reducible refine hE1.mono ?_); clear hE1; rintro e w1 ⟨rfl, rfl⟩)
              | (at_builtin; go_must (refine wpList_append_lot _ rfl (.tmp 40) (.tmp 41) 25 rfl (w.heap.size + 1) 21 i0 (.int .i32 0) 1 4 Tryd.underlying25 hi hz0 hz1 hz2 rfl (by decide) vo (rdL zb).length ((rdL zb).map encR) rfl HO.out none 0 0 [] rfl (fun _ => ⟨rfl, rfl⟩) rfl (fun _ e => by cases e) (by simp) hn1 hn2 hsz ?_; intro v2 w2 hown2 hgrow2; have hO2 : w2.ownsRow (w.heap.size + 1) 21 1 v2 (allL zb).length ((intsOf (allL zb)).map (Value.int .i32)) := (by rw [HLEN.out, HINT.out, ← rd_intsOf]; simpa using hown2); have HD2 : Hid (DecL w2 w.heap.size []) := Lib.hid (by rw [← HDn.out]; exact HD.out.kept hgrow2 (fun e => by have := (HO.out.lt _ e).1; omega)); have HB2 : Hid (Below w.heap.size w w2) := Lib.hid (HB.out.grown hgrow2 HB.out.size (fun k e => Nat.le_of_succ_le (HO.out.lt k e).1)); obtain ⟨A2, c2, rfl, _, _⟩ := own_form2 hO2; have HR2 : Hid (RS w2 w2.heap.size A2 (intsOf (allL zb))) := Lib.hid (RS.of_own hO2); clear hown2 hgrow2 hO2))
              | (go_at_call 13; (with_reducible refine (HAL.out _ HB2.out).mono ?_); rintro e w5 ⟨A5, c5, rfl, hr5, hb5⟩; have HR5 := Lib.hid hr5; have HR25 := Lib.hid ((HR2.out.below hb5).more hb5.size); have HB5 := Lib.hid (bel0 HB2.out hb5); clear hr5)
              | (go_at_call 11; (with_reducible refine (HS.out _ _ _ _ _ HR25.out HR5.out).mono ?_); rintro e w6 ⟨rfl, hb6⟩; have HB6 := Lib.hid (bel0 HB5.out hb6); have HD6 := Lib.hid ((HD2.out.below hb5).below hb6); have hlf := left_any w.heap.size 0 w6 HD6.out.left; have hE2 := end_0 w.heap.size w6 HD6.out.left)
              | (go_at_call 22; (with_reducible refine hlf.mono ?_); clear hlf; rintro e w7 ⟨rfl, rfl⟩)
              | (go_at_call 23; (with_reducible refine hE2.mono ?_); clear hE2; rintro e w8 ⟨rfl, rfl⟩))
            go_roundw
            case rel => exact ⟨1 + 1, by omega, rfl, HD6, HB6⟩
            case measure => simp [intOf]
          · have hE1 := end_pos w.heap.size (waitL zb) h0 wr hDl (HD.out.free 4 (by omega))
            have hn1 : (rdL zb).length + 1 ≤ maxLen := by unfold maxLen; omega
            have hn2 : ((rdL zb).length + 1) * 4 ≤ 140737488355328 := by omega
            have HLEN := Lib.hid (all_wait_len zb h0)
            have HINT := Lib.hid (all_wait zb h0)
            have HDe := Lib.hid (dec_end HD.out (.cells #[.int .i32 65533] 21))
            have HGe : Hid (wr.grownBy ((wr.setCell ⟨w.heap.size, 4, none⟩ (.int .i64 0)).alloc (.cells #[.int .i32 65533] 21)) (some w.heap.size)) := Lib.hid (grown_set _ _ _ _)
            have hnews : ∀ (j : Nat) (u : Value), [Value.int .i32 65533][j]? = some u → ((wr.setCell ⟨w.heap.size, 4, none⟩ (.int .i64 0)).alloc (.cells #[.int .i32 65533] 21)).cell? ((⟨wr.heap.size, 0, none⟩ : Addr).add j) = some u := fun j u hj => by
              have := cell_one_new (wr.setCell ⟨w.heap.size, 4, none⟩ (.int .i64 0)) (.int .i32 65533) 21 j u hj
              rw [World.size_setCell] at this
              exact this
            have HNW := Lib.hid hnews
            have hsz := HDe.out.lt
            have HSZ : Hid (w.heap.size + 1 ≤ ((wr.setCell ⟨w.heap.size, 4, none⟩ (.int .i64 0)).alloc (.cells #[.int .i32 65533] 21)).heap.size) := Lib.hid hsz
            clear hDl h0 hnews hsz
            go_wp2_with (first
              | (go_at_call 23; (with_reducible refine hE1.mono ?_); clear hE1; rintro e w1 ⟨rfl, rfl⟩)
              | (at_builtin; go_must (refine wpList_append_lot _ rfl (.tmp 40) (.tmp 41) 25 rfl (w.heap.size + 1) 21 i0 (.int .i32 0) 1 4 Tryd.underlying25 hi hz0 hz1 hz2 rfl (by decide) vo (rdL zb).length ((rdL zb).map encR) rfl (owns_past HO.out (Nat.lt_succ_self _) HGe.out) (some ⟨wr.heap.size, 0, none⟩) 1 1 [.int .i32 65533] rfl (fun e => by cases e) rfl (fun ad e => by cases e; exact HNW.out) (by simp [Value.oneCell']) hn1 hn2 HSZ.out ?_; intro v2 w2 hown2 hgrow2; have hO2 : w2.ownsRow (w.heap.size + 1) 21 1 v2 (allL zb).length ((intsOf (allL zb)).map (Value.int .i32)) := (by rw [HLEN.out, HINT.out]; exact hown2); have HD2 : Hid (DecL w2 w.heap.size []) := Lib.hid (HDe.out.kept hgrow2 (fun e => by have := ((owns_past HO.out (Nat.lt_succ_self _) HGe.out).lt _ e).1; omega)); have HB2 : Hid (Below w.heap.size w w2) := Lib.hid ((HB.out.grown HGe.out HB.out.size (fun k e => by cases e; exact Nat.le_refl _)).grown hgrow2 (Nat.le_of_succ_le HSZ.out) (fun k e => Nat.le_of_succ_le ((owns_past HO.out (Nat.lt_succ_self _) HGe.out).lt k e).1)); obtain ⟨A2, c2, rfl, _, _⟩ := own_form2 hO2; have HR2 : Hid (RS w2 w2.heap.size A2 (intsOf (allL zb))) := Lib.hid (RS.of_own hO2); clear hown2 hgrow2 hO2))
              | (go_at_call 13; (with_reducible refine (HAL.out _ HB2.out).mono ?_); rintro e w5 ⟨A5, c5, rfl, hr5, hb5⟩; have HR5 := Lib.hid hr5; have HR25 := Lib.hid ((HR2.out.below hb5).more hb5.size); have HB5 := Lib.hid (bel0 HB2.out hb5); clear hr5)
              | (go_at_call 11; (with_reducible refine (HS.out _ _ _ _ _ HR25.out HR5.out).mono ?_); rintro e w6 ⟨rfl, hb6⟩; have HB6 := Lib.hid (bel0 HB5.out hb6); have HD6 := Lib.hid ((HD2.out.below hb5).below hb6); have hlf := left_any w.heap.size 0 w6 HD6.out.left; have hE2 := end_0 w.heap.size w6 HD6.out.left)
              | (go_at_call 22; (with_reducible refine hlf.mono ?_); clear hlf; rintro e w7 ⟨rfl, rfl⟩)
              | (go_at_call 23; (with_reducible refine hE2.mono ?_); clear hE2; rintro e w8 ⟨rfl, rfl⟩))
            go_roundw
            case rel => exact ⟨1 + 1, by omega, rfl, HD6, HB6⟩
            case measure => simp [intOf]
    · go_wp2_with (go_at_call 10; refine (HA.out _ HBo.out).mono ?_; rintro e w1 ⟨rfl, hb1⟩)
      go_ret
      exact ⟨rfl, bel0 HBo.out hb1⟩

end Go.Proofs.YtdhmpnjodcjjpaaDoor
