/- The walk of the law UtfSteps. -/
import Derived.Test.YtdhmpnjodcjjpaaDoorVc
import Derived.Test.YtdhmpnjodcjjpaaDoorUp
namespace Go.Proofs.YtdhmpnjodcjjpaaDoor
open Go.RowKit Go.Shelf

theorem DecL.kept {w w' : World} {D : Nat} {ps : List Nat} {row : Option Nat} (h : DecL w D ps) (hg : w.grownBy w' row) (hr : row ≠ some D) : DecL w' D ps := by
  have hb := hg.block D h.lt (fun e => hr e.symm)
  have hc : ∀ k, w'.cell? ⟨D, k, none⟩ = w.cell? ⟨D, k, none⟩ := fun k => World.cell?_of_block (w := w) (a := ⟨D, k, none⟩) hb
  have hf : ∀ k, w'.frozen? ⟨D, k, none⟩ = w.frozen? ⟨D, k, none⟩ := fun k => World.frozen?_of_block (w := w) (a := ⟨D, k, none⟩) hb
  exact ⟨Nat.lt_of_lt_of_le h.lt hg.size, h.len, h.byte, (hc 4).trans h.left, fun k hk => (hc k).trans (h.wait k hk), fun k hk => by rw [hc]; exact h.room k hk, fun k hk => by rw [hf]; exact h.free k hk⟩
theorem DecL.below {w w' : World} {D : Nat} {ps : List Nat} (h : DecL w D ps) (hb : Below w.heap.size w w') : DecL w' D ps := h.kept (row := none) (grown_of_below hb) (by simp)
theorem dec_new (w : World) : DecL (w.alloc (.cells #[.int .u8 0, .int .u8 0, .int .u8 0, .int .u8 0, .int .i64 0] 35)) w.heap.size [] where
  lt := by simp
  len := by simp
  byte := by simp
  left := (cell_of_row _ _ _ _ _ _ (heap_alloc_new w _)).trans rfl
  wait := fun k hk => by simp at hk
  room := fun k hk => ⟨0, (cell_of_row _ _ _ _ _ _ (heap_alloc_new w _)).trans (by rcases (by omega : k = 0 ∨ k = 1 ∨ k = 2 ∨ k = 3) with rfl | rfl | rfl | rfl <;> rfl)⟩
  free := fun k _ => by
    simp only [World.frozen?]
    rw [heap_alloc_new]
    simp
theorem rest_len (zs : List Nat) : (restL zs).length = waitL zs := by unfold restL waitL; rw [List.length_drop]
theorem rd_intsOf (l : List (Nat × Nat)) : l.map encR = (intsOf (l.map (·.1))).map (Value.int .i32) := by rw [rd_map, intsOf_enc]
theorem encR_one (l : List (Nat × Nat)) : ∀ u ∈ l.map encR, u.oneCell' = true := by
  intro u hu
  obtain ⟨z, _, rfl⟩ := List.mem_map.1 hu
  rfl
theorem take_snocN (zs : List Nat) (k : Nat) (h : k < zs.length) : zs.take (k + 1) = zs.take k ++ [zs[k]?.getD 0] := by
  rw [List.take_succ_eq_append_getElem h, List.getElem?_eq_getElem h]; rfl

set_option maxRecDepth 100000 in
set_option maxHeartbeats 4000000 in
theorem utfSteps_law (A : Option Addr) (zs : List Nat) (n c : Nat) (hn : n = zs.length) (hcap : n ≤ c) (h63 : c ≤ 9223372036854775807) (w : World) (h4 : max 0 1 + 1 ≤ w.heap.size) (hT : UT w) (hR : BS w w.heap.size A zs) :
    Calls Tryd.prog 6 #[.slice A n c] w fun e w' => e = .returned (.bool true) ∧ Below w.heap.size w w' := by
  obtain ⟨i0, hi, hz0, hz1, hz2⟩ := info_parts Tryd.infoRune
  have HA := awake_hid h4 hT
  by_cases hl : 120 < n
  · have hli : (120 : Int) < n := by omega
    clear hn hcap hR hT
    go_enter Tryd.func6, Tryd.ntmps6
    go_wp2_with (go_at_call 10; refine (HA.out _ (Below.refl _ _)).mono ?_; rintro e w1 ⟨rfl, hb1⟩)
    go_ret
    exact ⟨rfl, hb1⟩
  · have hli : ¬ (120 : Int) < n := by omega
    have HT : Hid (∀ W, Below w.heap.size w W → UT W) := Lib.hid fun W hW => hT.below hW
    have HR := Lib.hid hR
    have HN := Lib.hid hn
    have H4 := Lib.hid h4
    have HDEC := Lib.hid (dec_new w)
    have H8 : Hid (∀ z ∈ zs, z < 256) := Lib.hid hR.1
    clear hn hR hT
    go_enter Tryd.func6, Tryd.ntmps6
    go_wp2
    go_loopw [4, 5] (fun o i wr => ∃ (k : Nat) (vo : Value), vo = o ∧ k ≤ n ∧ i = .int .i64 k ∧ Hid (DecL wr w.heap.size (restL (zs.take k))) ∧ Hid (wr.ownsRow (w.heap.size + 1) 21 1 vo (rdL (zs.take k)).length ((rdL (zs.take k)).map encR)) ∧ Hid (Below w.heap.size w wr)) (fun _ i _ => n - (intOf i).toNat)
    case atStart => exact ⟨0, _, rfl, Nat.zero_le _, rfl, HDEC, Lib.hid (World.ownsRow_nil _ _ _ _), Lib.hid ((Below.refl _ _).alloc (Nat.le_refl _) _)⟩
    case round =>
      obtain ⟨k, vo, rfl, hkn, rfl, HD, HO, HB⟩ := hrel
      by_cases hlt : k < n
      · have hkz : k < zs.length := by rw [← HN.out]; exact hlt
        obtain ⟨b, off, rfl, hbl, hc⟩ := HR.out.2 (by rintro rfl; simp at hkz)
        have hck := (HB.out.cell (p := ⟨b, off + k, none⟩) hbl).trans (hc k hkz)
        obtain ⟨e1, e2⟩ := rest_snoc (zs.take k) (zs[k]?.getD 0) (fun x hx => by
          rw [← take_snocN zs k hkz] at hx
          exact H8.out x (List.mem_of_mem_take hx))
        rw [← take_snocN zs k hkz] at e1 e2
        have hz8 : zs[k]?.getD 0 < 256 := by rw [List.getElem?_eq_getElem hkz]; exact H8.out _ (List.getElem_mem _)
        have hst := step_any w.heap.size (zs[k]?.getD 0) (restL (zs.take k)) hz8 wr HD.out (HT.out wr HB.out) (Nat.le_trans H4.out HB.out.size) (by have := H4.out; omega) (by have := H4.out; omega)
        have hki : (k : Int) < n := by omega
        have h8k : ∀ x ∈ zs.take (k + 1), x < 256 := fun x hx => H8.out x (List.mem_of_mem_take hx)
        have hsum := (rd_sum (zs.take (k + 1)).length (zs.take (k + 1)) (Nat.le_refl _) h8k).1
        have htl : (zs.take (k + 1)).length = k + 1 := by rw [List.length_take]; omega
        rw [htl] at hsum
        have hrl := rdL_len (zs.take (k + 1))
        rw [htl] at hrl
        have hrl0 := rdL_len (zs.take k)
        have hwl : waitL (zs.take (k + 1)) = k + 1 - sumB (rdL (zs.take (k + 1))) := by unfold waitL; rw [htl]
        have HW : Hid (∀ W, Below w.heap.size w W → Calls Tryd.prog 21 #[.slice (some ⟨b, off, none⟩) (k + 1) c] W fun e w' => e = .returned (.int .i64 (waitL (zs.take (k + 1)))) ∧ Below W.heap.size W w') := Lib.hid fun W hW =>
          waits_all _ (zs.take (k + 1)) (k + 1) c htl.symm (by omega) (by omega) W (((HR.out.take (k + 1)).below hW).more hW.size)
        have hall := all_settled (zs.take (k + 1)).length (zs.take (k + 1)) (Nat.le_refl _) h8k
        rw [List.take_take, Nat.min_eq_left hsum] at hall
        have HAL : Hid (∀ W, Below w.heap.size w W → Calls Tryd.prog 13 #[.slice (some ⟨b, off, none⟩) (sumB (rdL (zs.take (k + 1)))) c] W fun e w' => ∃ A c, e = .returned (.slice A (rdL (zs.take (k + 1))).length c) ∧ RS w' w'.heap.size A (intsOf ((rdL (zs.take (k + 1))).map (·.1))) ∧ Below W.heap.size W w') := Lib.hid fun W hW => by
          refine (refAll_rs _ (zs.take (sumB (rdL (zs.take (k + 1))))) _ c (by rw [List.length_take]; omega) (by omega) (by omega) h63 W (((HR.out.take _).below hW).more hW.size)).mono ?_
          rintro e w' ⟨A', c', rfl, hr, hb⟩
          rw [hall] at hr ⊢
          rw [List.length_map]
          exact ⟨A', c', rfl, hr, hb⟩
        have HS : Hid (∀ (W : World) (A1 A2 : Option Addr) (c1 c2 : Nat), RS W W.heap.size A1 (intsOf ((rdL (zs.take (k + 1))).map (·.1))) → RS W W.heap.size A2 (intsOf ((rdL (zs.take (k + 1))).map (·.1))) → Calls Tryd.prog 11 #[.slice A1 (rdL (zs.take (k + 1))).length c1, .slice A2 (rdL (zs.take (k + 1))).length c2] W fun e w' => e = .returned (.bool true) ∧ Below W.heap.size W w') := Lib.hid fun W A1 A2 c1 c2 r1 r2 => by
          have := same_any A1 A2 _ _ (rdL (zs.take (k + 1))).length (rdL (zs.take (k + 1))).length c1 c2 (by simp [intsOf]) (by simp [intsOf]) (by omega) W r1 r2
          rw [sameB_refl] at this
          exact this
        have hll : (rdL (zs.take k)).length + (rdL (restL (zs.take k) ++ [zs[k]?.getD 0])).length ≤ k + 1 := by
          have := congrArg List.length e1
          rw [List.length_append] at this
          omega
        have hm1 : (rdL (zs.take k)).length + (rdL (restL (zs.take k) ++ [zs[k]?.getD 0])).length ≤ maxLen := by unfold maxLen; omega
        have hm2 : ((rdL (zs.take k)).length + (rdL (restL (zs.take k) ++ [zs[k]?.getD 0])).length) * 4 ≤ 140737488355328 := by omega
        have hki' : (k : Int) + 1 ≤ c := by omega
        have HE1 := Lib.hid e1
        have HE2 := Lib.hid e2
        have HRL : Hid ((restL (zs.take (k + 1))).length = waitL (zs.take (k + 1))) := Lib.hid (rest_len _)
        unfold StepPost at hst
        have hwu : waitL (zs.take (k + 1)) + sumB (rdL (zs.take (k + 1))) = k + 1 := by omega
        clear hwl hsum
        generalize sumB (rdL (zs.take (k + 1))) = u at *
        generalize waitL (zs.take (k + 1)) = wl at *
        have hx1 : (0 : Int) ≤ (k : Int) + 1 - wl := by omega
        have hx2 : (k : Int) + 1 - wl ≤ c := by omega
        obtain rfl : u = k + 1 - wl := by omega
        clear hwu
        clear hc hbl e1 e2 htl h8k hall H8 hkz
        generalize zs[k]?.getD 0 = z at *
        go_wp2_with (first
          | (go_at_call 20; (with_reducible refine hst.mono ?_); clear hst; rintro e w1 ⟨v1, rfl, ho1, hd1, hg1⟩; obtain ⟨A1, c1, rfl, hA1, hA1'⟩ := own_form2 ho1; have HO1 := Lib.hid ho1; have HD1 := Lib.hid hd1; have HG1 := Lib.hid hg1; have HA1 := Lib.hid hA1; clear ho1 hd1 hg1 hA1 hA1')
          | (at_builtin; go_must (refine wpList_append_lot _ rfl (.tmp 17) (.tmp 22) 25 rfl (w.heap.size + 1) 21 i0 (.int .i32 0) 1 4 Tryd.underlying25 hi hz0 hz1 hz2 rfl (by decide) vo (rdL (zs.take k)).length ((rdL (zs.take k)).map encR) rfl (owns_past HO.out (Nat.lt_succ_self _) HG1.out) A1 (rdL (restL (zs.take k) ++ [z])).length c1 ((rdL (restL (zs.take k) ++ [z])).map encR) rfl HA1.out (by rw [List.length_map, Nat.mul_one]) (own_news HO1.out) (encR_one _) hm1 hm2 HD1.out.lt ?_; intro v2 w2 hown2 hgrow2; have hO2 : w2.ownsRow (w.heap.size + 1) 21 1 v2 (rdL (zs.take (k + 1))).length ((rdL (zs.take (k + 1))).map encR) := (by rw [HE1.out, List.length_append, List.map_append]; exact hown2); have HD2 : Hid (DecL w2 w.heap.size (restL (zs.take (k + 1)))) := Lib.hid (by rw [HE2.out]; exact HD1.out.kept hgrow2 (fun e => by have := ((owns_past HO.out (Nat.lt_succ_self _) HG1.out).lt _ e).1; omega)); have HB2 : Hid (Below w.heap.size w w2) := Lib.hid ((HB.out.grown HG1.out HB.out.size (fun k e => by cases e; exact Nat.le_refl _)).grown hgrow2 (Nat.le_trans HB.out.size HG1.out.size) (fun k e => Nat.le_of_succ_le ((owns_past HO.out (Nat.lt_succ_self _) HG1.out).lt k e).1)); obtain ⟨A2, c2, rfl, _, _⟩ := own_form2 hO2; have HO2 := Lib.hid hO2; have HR2 : Hid (RS w2 w2.heap.size A2 (intsOf ((rdL (zs.take (k + 1))).map (·.1)))) := Lib.hid (RS.of_own (by rw [← rd_intsOf]; exact hO2)); clear hown2 hgrow2 hO2))
          | (go_at_call 21; (with_reducible refine (HW.out _ HB2.out).mono ?_); rintro e w3 ⟨rfl, hb3⟩; have hlf := left_any w.heap.size wl w3 (by rw [← HRL.out]; exact (HD2.out.below hb3).left); have HB3 := Lib.hid (bel0 HB2.out hb3))
          | (go_at_call 22; (with_reducible refine hlf.mono ?_); clear hlf; rintro e w4 ⟨rfl, rfl⟩)
          | (go_at_call 13; (with_reducible refine (HAL.out _ HB3.out).mono ?_); rintro e w5 ⟨A5, c5, rfl, hr5, hb5⟩; have HR5 := Lib.hid hr5; have HR25 := Lib.hid ((((HR2.out.below hb3).more hb3.size).below hb5).more hb5.size); have HB5 := Lib.hid (bel0 HB3.out hb5); clear hr5)
          | (go_at_call 11; (with_reducible refine (HS.out _ _ _ _ _ HR25.out HR5.out).mono ?_); rintro e w6 ⟨rfl, hb6⟩; have HB6 := Lib.hid (bel0 HB5.out hb6)))
        go_roundw
        case rel => exact ⟨k + 1, _, rfl, by omega, by go_num, Lib.hid (((HD2.out.below hb3).below hb5).below hb6), Lib.hid (ownsRow_below' (ownsRow_below' (ownsRow_below' HO2.out hb3) hb5) hb6), HB6⟩
        case measure => simp [intOf]; omega
      · have : k = n := by omega
        subst this
        go_wp2_with (go_at_call 10; refine (HA.out _ HB.out).mono ?_; rintro e w1 ⟨rfl, hb1⟩)
        go_ret
        exact ⟨rfl, bel0 HB.out hb1⟩

end Go.Proofs.YtdhmpnjodcjjpaaDoor
