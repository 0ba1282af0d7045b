/- The walk of the law CharsAll. -/
import Derived.Test.YtjdpkjdnamfloaaDoorCx
namespace Go.Proofs.YtjdpkjdnamfloaaDoor
open Go.RowKit

theorem after_ref {wb wr w3 : World} {g h B : Nat} {a b c d u q t0 t1 t2 t3 t4 t5 : Int} {vo : Value} {k : Nat} {L : List Value} (HS : BoxAt wb wr g (.int .i64 a) (.int .i64 b) (.int .i64 c) (.int .i64 d) (.int .i64 u) (.int .i64 q)) (HZ : BoxAt wb wr h (.int .i64 t0) (.int .i64 t1) (.int .i64 t2) (.int .i64 t3) (.int .i64 t4) (.int .i64 t5)) (hne : h < g) (HO : wr.ownsRow B 21 1 vo k L) (hgB : g < B) (hB : B ≤ wr.heap.size) (hb3 : Below wr.heap.size wr w3) (p : Int) :
    BoxAt wb (((((((w3.setCell ⟨g, 0, none⟩ (.int .i64 a)).setCell ⟨g, 1, none⟩ (.int .i64 b)).setCell ⟨g, 2, none⟩ (.int .i64 c)).setCell ⟨g, 3, none⟩ (.int .i64 d)).setCell ⟨g, 4, none⟩ (.int .i64 u)).setCell ⟨g, 5, none⟩ (.int .i64 0)).alloc (.cells #[.int .i32 p] 21)) g (.int .i64 a) (.int .i64 b) (.int .i64 c) (.int .i64 d) (.int .i64 u) (.int .i64 0) ∧ BoxAt wb (((((((w3.setCell ⟨g, 0, none⟩ (.int .i64 a)).setCell ⟨g, 1, none⟩ (.int .i64 b)).setCell ⟨g, 2, none⟩ (.int .i64 c)).setCell ⟨g, 3, none⟩ (.int .i64 d)).setCell ⟨g, 4, none⟩ (.int .i64 u)).setCell ⟨g, 5, none⟩ (.int .i64 0)).alloc (.cells #[.int .i32 p] 21)) h (.int .i64 t0) (.int .i64 t1) (.int .i64 t2) (.int .i64 t3) (.int .i64 t4) (.int .i64 t5) ∧ (((((((w3.setCell ⟨g, 0, none⟩ (.int .i64 a)).setCell ⟨g, 1, none⟩ (.int .i64 b)).setCell ⟨g, 2, none⟩ (.int .i64 c)).setCell ⟨g, 3, none⟩ (.int .i64 d)).setCell ⟨g, 4, none⟩ (.int .i64 u)).setCell ⟨g, 5, none⟩ (.int .i64 0)).alloc (.cells #[.int .i32 p] 21)).ownsRow B 21 1 vo k L ∧ (∀ (j : Nat) (z : Value), [Value.int .i32 p][j]? = some z → (((((((w3.setCell ⟨g, 0, none⟩ (.int .i64 a)).setCell ⟨g, 1, none⟩ (.int .i64 b)).setCell ⟨g, 2, none⟩ (.int .i64 c)).setCell ⟨g, 3, none⟩ (.int .i64 d)).setCell ⟨g, 4, none⟩ (.int .i64 u)).setCell ⟨g, 5, none⟩ (.int .i64 0)).alloc (.cells #[.int .i32 p] 21)).cell? ((⟨w3.heap.size, 0, none⟩ : Addr).add j) = some z) ∧ B ≤ (((((((w3.setCell ⟨g, 0, none⟩ (.int .i64 a)).setCell ⟨g, 1, none⟩ (.int .i64 b)).setCell ⟨g, 2, none⟩ (.int .i64 c)).setCell ⟨g, 3, none⟩ (.int .i64 d)).setCell ⟨g, 4, none⟩ (.int .i64 u)).setCell ⟨g, 5, none⟩ (.int .i64 0)).alloc (.cells #[.int .i32 p] 21)).heap.size := by
  have hs3 := HS.past hb3
  have hz3 := HZ.past hb3
  have ho3 := HO.kept (grown_of_below hb3) (by cases vo.ownBlock <;> simp)
  have hg : w3.grownBy ((((((w3.setCell ⟨g, 0, none⟩ (.int .i64 a)).setCell ⟨g, 1, none⟩ (.int .i64 b)).setCell ⟨g, 2, none⟩ (.int .i64 c)).setCell ⟨g, 3, none⟩ (.int .i64 d)).setCell ⟨g, 4, none⟩ (.int .i64 u)).setCell ⟨g, 5, none⟩ (.int .i64 0)) (some g) := grown_row6 _ _ _ _ _ _ _
  have hal := (Below.refl ((((((w3.setCell ⟨g, 0, none⟩ (.int .i64 a)).setCell ⟨g, 1, none⟩ (.int .i64 b)).setCell ⟨g, 2, none⟩ (.int .i64 c)).setCell ⟨g, 3, none⟩ (.int .i64 d)).setCell ⟨g, 4, none⟩ (.int .i64 u)).setCell ⟨g, 5, none⟩ (.int .i64 0)).heap.size ((((((w3.setCell ⟨g, 0, none⟩ (.int .i64 a)).setCell ⟨g, 1, none⟩ (.int .i64 b)).setCell ⟨g, 2, none⟩ (.int .i64 c)).setCell ⟨g, 3, none⟩ (.int .i64 d)).setCell ⟨g, 4, none⟩ (.int .i64 u)).setCell ⟨g, 5, none⟩ (.int .i64 0))).alloc (Nat.le_refl _) (.cells #[.int .i32 p] 21)
  have hsz := hb3.size
  refine ⟨(box_set hs3 _ _ _ _ _ _).past hal, (hz3.grown hg (by simp; omega) (fun k e => by cases e; exact HS.new)).past hal, (ho3.kept hg (.inr (fun e => ?_))).alloc _, news5 (size6 _ _ _ _ _ _ _ _) p, ?_⟩
  · have := (ho3.lt _ e).1
    omega
  · simp
    omega

set_option maxRecDepth 100000 in
set_option maxHeartbeats 8000000 in
theorem charsAll_law (a b c d u o : Int) (A : Option Addr) (xs : List Int) (n cp : Nat) (hn : n = xs.length) (w : World) (hT : CT w) (hR : RS w w.heap.size A xs) :
    Calls Tryd.prog 7 #[.agg #[.int .i64 a, .int .i64 b, .int .i64 c, .int .i64 d, .int .i64 u, .int .i64 o], .slice A n cp] w fun e w' => e = .returned (.bool true) ∧ Below w.heap.size w w' := by
  obtain ⟨i0, hi, hz0, hz1, hz2⟩ := info_parts Tryd.infoRune
  have HA : Hid (∀ W, Below w.heap.size w W → Calls Tryd.prog 11 #[] W fun e w' => e = .returned (.bool true) ∧ Below W.heap.size W w') := Lib.hid fun W hW => awake_any W (hT.below hW)
  by_cases h200 : 200 < n
  · have hl : (200 : Int) < n := by omega
    clear hn hT hR h200
    go_enter Tryd.func7, Tryd.ntmps7
    go_wp2_with (first
      | (go_at_call 11; (with_reducible refine (HA.out _ (belA (Below.refl _ _) _)).mono ?_); rintro e w7 ⟨rfl, hb7⟩))
    go_ret
    exact ⟨rfl, bel1 (Below.refl _ w) hb7⟩
  · have hl : (n : Int) ≤ 200 := by omega
    have HALL : Hid (∀ W, Below w.heap.size w W → Calls Tryd.prog 21 #[.agg #[.int .i64 a, .int .i64 b, .int .i64 c, .int .i64 d, .int .i64 u, .int .i64 o], .slice A n cp] W fun e w' => ∃ v, e = .returned (.tuple #[v, .agg #[.int .i64 a, .int .i64 b, .int .i64 c, .int .i64 d, .int .i64 u, .int .i64 (onceK o n)]]) ∧ w'.ownsRow W.heap.size 21 1 v n ((outL a b c d u o xs).map (Value.int .i32)) ∧ Below W.heap.size W w') := Lib.hid fun W hW => (all_any a b c d u o A xs n cp hn (by omega) W (hT.below hW) ((hR.below hW).more hW.size)).mono fun e w' h => by
      unfold AllPost at h
      rw [← hn] at h
      exact h
    have HM : Hid (∀ (W : World) (q r : Int), Calls Tryd.prog 9 #[.agg #[.int .i64 a, .int .i64 b, .int .i64 c, .int .i64 d, .int .i64 u, .int .i64 q], .int .i32 r] W fun e w' => e = .returned (.tuple #[.int .i32 (printZ (setZ a b c d (meantZ u q)) r), .agg #[.int .i64 a, .int .i64 b, .int .i64 c, .int .i64 d, .int .i64 u, .int .i64 0]]) ∧ Below W.heap.size W w') := Lib.hid fun W q r => refMap_any a b c d u q r W
    have HR := Lib.hid hR
    have HN := Lib.hid hn
    have hqS := fun W q => eqS W a b c d u q
    have hgS : Tryd.prog.eqGuardType Tryd.prog.depth 28 = false := by kernel_rfl
    clear hn hT hR h200
    go_enter Tryd.func7, Tryd.ntmps7
    go_wp2_with (first
      | (go_at_call 21; (with_reducible refine (HALL.out _ (belA (Below.refl _ _) _)).mono ?_); rintro e w2 ⟨v, rfl, hown, hb2⟩; have HB2 := Lib.hid (bel1 (Below.refl _ w) hb2); have HG := Lib.hid hown; clear hown; obtain ⟨q0, q1, q2, q3, q4, q5⟩ := cells6 hb2; have hz2' := sz1 hb2)
      | (go_at_call 10; (with_reducible refine (ofS_any _ _ _ _ _ _ _).mono ?_); rintro e w4 ⟨rfl, hb4⟩; have HT0 := Lib.hid (((box_new (Below.refl _ w2)).past hb4).past ((Below.refl _ _).alloc (Nat.le_refl _) (.cells #[.int .i64 a, .int .i64 b, .int .i64 c, .int .i64 d, .int .i64 u, .int .i64 o] 28))); have HM0 := Lib.hid (box_new (v0 := .int .i64 a) (v1 := .int .i64 b) (v2 := .int .i64 c) (v3 := .int .i64 d) (v4 := .int .i64 u) (v5 := .int .i64 o) (t := 28) (bel1 (Below.refl _ w2) hb4)); have hz4 := sz1 hb4))
    clear q0 q1 q2 q3 q4 q5
    go_loopw [8, 9] (fun v i wr => ∃ (k : Nat) (vo : Value), vo = v ∧ k ≤ n ∧ i = .int .i64 k ∧ Hid (BoxAt w2 wr w4.heap.size (.int .i64 a) (.int .i64 b) (.int .i64 c) (.int .i64 d) (.int .i64 u) (.int .i64 (onceK o k))) ∧ Hid (BoxAt w2 wr w2.heap.size (.int .i64 a) (.int .i64 b) (.int .i64 c) (.int .i64 d) (.int .i64 u) (.int .i64 (onceK o n))) ∧ Hid (wr.ownsRow (w4.heap.size + 1) 21 1 vo k ((outL a b c d u o (xs.take k)).map (Value.int .i32)))) (fun _ i _ => n - (intOf i).toNat)
    case atStart => exact ⟨0, _, rfl, Nat.zero_le _, rfl, HM0, HT0, Lib.hid (World.ownsRow_nil _ _ _ _)⟩
    case round =>
      obtain ⟨k, vo, rfl, hkn, rfl, HS, HZ, HO⟩ := hrel
      by_cases hlt : k < n
      · have hkz : k < xs.length := by rw [← HN.out]; exact hlt
        obtain ⟨b', off, rfl, hbl, hc⟩ := HR.out (by rintro rfl; simp at hkz)
        have HBW : Below w.heap.size w wr := HB2.out.trans (HS.out.below.mono HB2.out.size)
        have hck := (HBW.cell (p := ⟨b', off + k, none⟩) hbl).trans (hc k hkz)
        have HOUT := Lib.hid (outL_take a b c d u o xs k hkz)
        have hki : (k : Int) < n := by omega
        have hp1 : k + 1 ≤ maxLen := by unfold maxLen; omega
        have hp2 : (k + 1) * 4 ≤ 140737488355328 := by omega
        have HSL := Lib.hid HS.out.lt
        have n0 := HS.out.c0
        have n1 := HS.out.c1
        have n2 := HS.out.c2
        have n3 := HS.out.c3
        have n4 := HS.out.c4
        have n5 := HS.out.c5
        have HZ4' := Lib.hid hz4
        clear hc hbl hkz HBW hb2 hb4 hz4
        generalize xs[k]?.getD 0 = r at *
        have hm := HM.out wr (onceK o k) r
        generalize onceK o k = q at *
        generalize printZ (setZ a b c d (meantZ u q)) r = p at *
        go_wp2_with (first
          | (go_at_call 9; (with_reducible refine hm.mono ?_); clear hm; rintro e w3 ⟨rfl, hb3⟩; (have HF := Lib.hid (after_ref HS.out HZ.out HZ4'.out HO.out (Nat.lt_succ_self _) HSL.out hb3 p); have hs3 := HS.out.past hb3; clear n0 n1 n2 n3 n4 n5; have n0 := hs3.c0; have n1 := hs3.c1; have n2 := hs3.c2; have n3 := hs3.c3; have n4 := hs3.c4; have n5 := hs3.c5; have hfz := hs3.free; have hzz := hs3.lt; clear hs3))
          | (at_builtin; go_must (refine wpList_append_own _ rfl _ _ 44 rfl (w4.heap.size + 1) 21 i0 (.int .i32 0) 1 4 Tryd.underlying44 hi hz0 hz1 hz2 rfl (by decide) vo k ((outL a b c d u o (xs.take k)).map (Value.int .i32)) rfl HF.out.2.2.1 ⟨w3.heap.size, 0, none⟩ 1 1 [.int .i32 p] rfl rfl HF.out.2.2.2.1 (by simp [Value.oneCell']) hp1 hp2 HF.out.2.2.2.2 ?_; intro v2 w5 hown2 hgrow2 _; have HS4 := Lib.hid ((HF.out.1).grown hgrow2 (fun e => by have := (HF.out.2.2.1.lt _ e).1; omega) (fun k e => by have := (HF.out.2.2.1.lt _ e).1; have := HZ4'.out; omega)); have HZ4 := Lib.hid ((HF.out.2.1).grown hgrow2 (fun e => by have := (HF.out.2.2.1.lt _ e).1; have := HZ4'.out; omega) (fun k e => by have := (HF.out.2.2.1.lt _ e).1; have := HZ4'.out; omega)); have HO4 := Lib.hid hown2; clear hgrow2 hown2)))
        go_roundw
        case rel =>
          have h0 : onceK o (k + 1) = 0 := if_neg (Nat.succ_ne_zero k)
          refine ⟨k + 1, v2, rfl, hlt, by go_num, ?_, HZ4, ?_⟩
          · rw [h0]
            exact HS4
          · rw [HOUT.out, List.map_append]
            exact HO4
        case measure => simp [intOf]; omega
      · obtain rfl : k = n := by omega
        have HTK := Lib.hid (List.take_of_length_le (Nat.le_of_eq HN.out.symm))
        have n0 := HS.out.c0
        have n1 := HS.out.c1
        have n2 := HS.out.c2
        have n3 := HS.out.c3
        have n4 := HS.out.c4
        have n5 := HS.out.c5
        have hzz := HS.out.lt
        have m0 := HZ.out.c0
        have m1 := HZ.out.c1
        have m2 := HZ.out.c2
        have m3 := HZ.out.c3
        have m4 := HZ.out.c4
        have m5 := HZ.out.c5
        have mzz := HZ.out.lt
        obtain ⟨A1, c1, rfl, _⟩ := own_form HG.out
        obtain ⟨A2, c2, rfl, _⟩ := own_form HO.out
        have HLN : Hid (k = (outL a b c d u o xs).length) := Lib.hid (by rw [outL_len]; exact HN.out)
        have HSM : Hid (∀ W, Below wr.heap.size wr W → Calls Tryd.prog 22 #[.slice A1 k c1, .slice A2 k c2] W fun e w' => e = .returned (.bool true) ∧ Below W.heap.size W w') := Lib.hid fun W hW => by
          have h1 := RS.of_own HG.out
          have h2 := RS.of_own HO.out
          rw [HTK.out] at h2
          have hb := HS.out.below
          have := same_any A1 A2 _ _ k k c1 c2 HLN.out HLN.out (by omega) W (((h1.below hb).more hb.size).below hW |>.more hW.size) ((h2.below hW).more hW.size)
          rw [show sameB (outL a b c d u o xs) (outL a b c d u o xs) = true from decide_eq_true rfl] at this
          exact this
        have HBW : Hid (Below w.heap.size w wr) := Lib.hid (HB2.out.trans (HS.out.below.mono HB2.out.size))
        clear hb2 hb4
        generalize hq : onceK o k = q at *
        clear hq
        have hqSq := fun W => eqS W a b c d u q
        clear hqS n0 n1 n2 n3 n4 n5 m0 m1 m2 m3 m4 m5 hzz mzz HALL HM HR HG HO HM0 HN hlt hkn hz2' hz4
        go_upto_region 12 with fail
        go_region_with (first
          | (go_at_call 22; go_loud ((with_reducible refine (HSM.out _ (Below.refl _ _).drew).mono ?_); rintro e w5 ⟨rfl, hb5⟩; have HB5 := Lib.hid (bel0 HBW.out (belD hb5)); have hs5 := HS.out.past (belD hb5); have ht5 := HZ.out.past (belD hb5); have n0 := hs5.c0; have n1 := hs5.c1; have n2 := hs5.c2; have n3 := hs5.c3; have n4 := hs5.c4; have n5 := hs5.c5; have hzz := hs5.lt; have m0 := ht5.c0; have m1 := ht5.c1; have m2 := ht5.c2; have m3 := ht5.c3; have m4 := ht5.c4; have m5 := ht5.c5; have mzz := ht5.lt))
          | (go_at_call 10; go_loud ((with_reducible refine (ofS_any _ _ _ _ _ _ _).mono ?_); rintro e w6 ⟨rfl, hb6⟩; have HB6 := Lib.hid (bel0 HB5.out hb6); obtain ⟨hc6, hf6⟩ := bcell hb6; have hz6 := hb6.size))
          | (go_at_call 11; go_loud ((with_reducible refine (HA.out _ HB6.out).mono ?_); rintro e w7 ⟨rfl, hb7⟩; have HB7 := Lib.hid (bel0 HB6.out hb7))))
        all_goals
          go_wp2
          go_ret
          exact ⟨rfl, HB7.out⟩

end Go.Proofs.YtjdpkjdnamfloaaDoor
