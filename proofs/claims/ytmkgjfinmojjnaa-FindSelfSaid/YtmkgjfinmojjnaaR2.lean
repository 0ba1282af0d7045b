/- The walk of the document's All; the example; the law FindAll. -/
import Derived.Test.YtmkgjfinmojjnaaR1
namespace Go.Proofs.Ytmkgjfinmojjnaa
open Go.RowKit

/-- The places below k. -/
def plK (m : UInt8 → UInt8) (T N : List UInt8) (k : Nat) : List Nat := (List.range k).filter fun a => decide (Stands m T N a)
theorem plK_succ (m : UInt8 → UInt8) (T N : List UInt8) (k : Nat) : plK m T N (k + 1) = plK m T N k ++ (if decide (Stands m T N k) = true then [k] else []) := by
  unfold plK
  rw [List.range_succ, List.filter_append]
  congr 1
  by_cases h : Stands m T N k
  · simp [h]
  · simp [h]
theorem plK_le (m : UInt8 → UInt8) (T N : List UInt8) (k : Nat) : (plK m T N k).length ≤ k := by
  unfold plK
  refine Nat.le_trans (List.length_filter_le _ _) ?_
  rw [List.length_range]
  exact Nat.le_refl _
set_option maxRecDepth 100000 in
set_option maxHeartbeats 4000000 in
theorem refAll_any (T N : List UInt8) (hT : T.length ≤ 1000000) (hN : N.length ≤ 1000000) (b : Bool) (w : World) :
    Calls Try.prog 9 #[.string (bsB T), .string (bsB N), .bool b] w (IntsPost (pls (meanL b) T N) w) := by
  obtain ⟨i0, hi0, hz0, hz1, hz2⟩ := info_parts Try.infoInt
  have hsT : ((bsB T).size : Int) = T.length := by rw [bsB_size]
  have hsN : ((bsB N).size : Int) = N.length := by rw [bsB_size]
  have HSAME : Hid (∀ p, p + N.length ≤ T.length → ∀ W, Calls Try.prog 18 #[.string (bsB T), .string (bsB N), .int .i64 p, .bool b] W fun e w' => e = .returned (.bool (decide (Stands (meanL b) T N p))) ∧ Below W.heap.size W w') := Lib.hid fun p hp W => refSame_any T N (by omega) (by omega) p hp b W
  have hwd : IntKind.i64.wrap ((T.length : Int) - N.length) = (T.length : Int) - N.length := IntWalk.i64_in _ (by omega)
  unfold IntsPost
  by_cases hN0 : N.length = 0
  · have hpl : pls (meanL b) T N = [] := by unfold pls; rw [if_pos (List.length_eq_zero_iff.1 hN0)]
    rw [hpl]
    have hz : ((0 : Nat) : Int) = 0 := rfl
    rw [hN0] at hsN hwd
    rw [hz] at hsN hwd
    have h0 : (0 : Int) ≤ (T.length : Int) - 0 := by omega
    have h1 : (0 : Int) ≤ (T.length : Int) := by omega
    clear HSAME hN0 hpl hz
    generalize bsB T = sT at *
    generalize bsB N = sN at *
    generalize T.length = tl at *
    go_enter Try.func9, Try.ntmps9
    go_wp2
    go_loopw [7, 8] (fun v q wr => v = .slice none 0 0 ∧ q = .int .i64 0 ∧ w = wr) (fun _ _ _ => 0)
    case atStart => exact ⟨rfl, rfl, rfl⟩
    case round =>
      obtain ⟨rfl, rfl, rfl⟩ := hrel
      go_wp2
      go_ret
      exact ⟨none, 0, rfl, World.ownsRow_nil _ _ _ _, Below.refl _ _⟩
  · have hn0 : (0 : Int) < N.length := by omega
    have hpl : pls (meanL b) T N = plK (meanL b) T N (T.length + 1 - N.length) := by
      unfold pls
      rw [if_neg (fun e => hN0 (by rw [e]; rfl))]
      rfl
    rw [hpl]
    have HLE := Lib.hid (plK_le (meanL b) T N)
    have HSU := Lib.hid (plK_succ (meanL b) T N)
    clear hpl hN0
    generalize plK (meanL b) T N = pk at *
    generalize hSt : (fun p => decide (Stands (meanL b) T N p)) = St at *
    have HST : ∀ p, decide (Stands (meanL b) T N p) = St p := fun p => by rw [← hSt]
    have HSAME2 : Hid (∀ p, p + N.length ≤ T.length → ∀ W, Calls Try.prog 18 #[.string (bsB T), .string (bsB N), .int .i64 p, .bool b] W fun e w' => e = .returned (.bool (St p)) ∧ Below W.heap.size W w') := Lib.hid fun p hp W => by have := HSAME.out p hp W; rwa [HST] at this
    have HSU2 : Hid (∀ k, pk (k + 1) = pk k ++ if St k = true then [k] else []) := Lib.hid fun k => by have := HSU.out k; rwa [HST] at this
    clear HSAME HSU HST hSt
    generalize bsB T = sT at *
    generalize bsB N = sN at *
    generalize T.length = tl at *
    generalize N.length = nl at *
    go_enter Try.func9, Try.ntmps9
    go_wp2
    go_loopw [7, 8] (fun v q wr => ∃ (k n : Nat) (A : Option Addr) (c : Nat), v = .slice A n c ∧ q = .int .i64 k ∧ k ≤ tl + 1 - nl ∧ n ≤ k ∧ Hid (n = (pk k).length) ∧ Hid (wr.ownsRow w.heap.size 3 1 (.slice A n c) n (intV (pk k))) ∧ Hid (Below w.heap.size w wr)) (fun _ q _ => tl + 1 - (intOf q).toNat)
    case atStart =>
      have h0 : pk 0 = [] := List.length_eq_zero_iff.1 (by have := HLE.out 0; omega)
      exact ⟨0, 0, none, 0, rfl, by go_num, Nat.zero_le _, Nat.le_refl _, Lib.hid (by rw [h0]; rfl), Lib.hid (by rw [h0]; exact World.ownsRow_nil _ _ _ _), Lib.hid (Below.refl _ _)⟩
    case round =>
      obtain ⟨k, n, A, c, rfl, rfl, hk, hnk, HN, HO, HB⟩ := hrel
      by_cases hlt : k + nl ≤ tl
      · have h1 : (k : Int) ≤ (tl : Int) - nl := by omega
        have HS := Lib.hid (HSAME2.out k hlt)
        have HSX := Lib.hid (HSU2.out k)
        have HOP := Lib.hid (fun W (hb : Below wr.heap.size wr W) => own_past HO.out hb)
        have HBP := Lib.hid (fun W (hb : Below wr.heap.size wr W) => bel0 HB.out hb)
        generalize St k = sb at *
        generalize pk k = pk0 at *
        cases sb with
        | true =>
          have HP1 : Hid (pk (k + 1) = pk0 ++ [k]) := Lib.hid (by rw [HSX.out, if_pos rfl])
          clear HSX
          go_wp2_with (first
            | (go_at_call 18; (with_reducible refine (HS.out _).mono ?_); rintro e w2 ⟨rfl, hb2⟩; have HO2 := Lib.hid (HOP.out w2 hb2); have HB2 := Lib.hid (HBP.out w2 hb2); have hsz := (belA (HBP.out w2 hb2) (.cells #[.int .i64 k] 3)).size; clear hb2)
            | (at_builtin; go_must (refine wpList_append_own _ rfl _ _ 23 rfl w.heap.size 3 i0 (.int .i64 0) 1 8 Try.underlying23 hi0 hz0 hz1 hz2 rfl (by decide) (.slice A n c) n (intV pk0) rfl (HO2.out.alloc _) ⟨w2.heap.size, 0, none⟩ 1 1 [.int .i64 k] rfl rfl (news1 w2 _ _) (by simp [Value.oneCell']) (by unfold maxLen; omega) (by omega) hsz ?_; intro v5 w5 hown5 hgrow5 _; obtain ⟨A5, c5, rfl, _⟩ := own_formC hown5; have HO5 := Lib.hid hown5; have HB5 := Lib.hid ((belA HB2.out _).grown hgrow5 hsz (fun j e => ((HO2.out.alloc (.cells #[.int .i64 k] 3)).lt _ e).1)); clear hown5 hgrow5)))
          go_roundw
          case rel => exact ⟨k + 1, n + 1, A5, c5, rfl, by go_num, by omega, by omega, Lib.hid (by rw [HP1.out, List.length_append, HN.out]; rfl), Lib.hid (by rw [HP1.out, intV_snoc]; exact HO5.out), HB5⟩
          case measure => simp [intOf]; omega
        | false =>
          have HP1 : Hid (pk (k + 1) = pk0) := Lib.hid (by rw [HSX.out, if_neg (by decide), List.append_nil])
          clear HSX
          go_wp2_with (go_at_call 18; (with_reducible refine (HS.out _).mono ?_); rintro e w2 ⟨rfl, hb2⟩; have HO2 := Lib.hid (HOP.out w2 hb2); have HB2 := Lib.hid (HBP.out w2 hb2); clear hb2)
          go_roundw
          case rel => exact ⟨k + 1, n, A, c, rfl, by go_num, by omega, by omega, Lib.hid (by rw [HP1.out]; exact HN.out), Lib.hid (by rw [HP1.out]; exact HO2.out), HB2⟩
          case measure => simp [intOf]; omega
      · have h1 : ¬ (k : Int) ≤ (tl : Int) - nl := by omega
        have HE : Hid (tl + 1 - nl = k ∨ (k = 0 ∧ tl + 1 - nl = 0)) := Lib.hid (by omega)
        have HE2 : Hid (tl + 1 - nl = k) := Lib.hid (by omega)
        clear HE
        go_wp2
        go_ret
        rw [HE2.out]
        exact ⟨A, c, by rw [← HN.out]; rfl, by rw [← HN.out]; exact HO.out, HB.out⟩

end Go.Proofs.Ytmkgjfinmojjnaa
