/- The walk of the document's Longest. -/
import Derived.Test.YtjifekdjkjnefaaL9
import Derived.Test.YtjifekdjkjnefaaN2
namespace Go.Proofs.Ytjifekdjkjnefaa
open Go.RowKit

def bZ : Option Nat → Int
  | none => -1
  | some i => i
set_option maxRecDepth 100000 in
set_option maxHeartbeats 8000000 in
theorem refLongest_any (T : List UInt8) (Ns : List (List UInt8)) (n c : Nat) (A : Option Addr) (hT : T.length ≤ 1000000) (hn : n = Ns.length) (hn2 : n ≤ 1000) (hNs : ∀ k, (nAt Ns k).length ≤ 1000000) (w : World) (hR : RT w w.heap.size A Ns) :
    Calls Try.prog 19 #[.string (bsB T), .slice A n c] w (HitsPost (lgL Ns (hitsL T Ns)) w) := by
  obtain ⟨i0, hi0, hz0, hz1, hz2⟩ := info_parts infoHit
  have hsT : ((bsB T).size : Int) = T.length := by rw [bsB_size]
  have HST : Hid (∀ (a i : Nat) (W : World), Calls Try.prog 24 #[.string (bsB T), .string (bsB (nAt Ns i)), .int .i64 a] W fun e w' => e = .returned (.bool (stB T Ns a i)) ∧ ∃ m, w' = W.drewN m) := Lib.hid fun a i W => standsQ_any T Ns a i hT (hNs i) W
  have HSZ : Hid (∀ i, ((bsB (nAt Ns i)).size : Int) = (nAt Ns i).length) := Lib.hid fun i => by rw [bsB_size]
  have HN := Lib.hid hn
  have HCE : Hid (∀ k, k < n → ∃ b off, A = some ⟨b, off, none⟩ ∧ b < w.heap.size ∧ ∀ j, j < n → w.cell? ⟨b, off + j, none⟩ = some (.string (bsB (nAt Ns j)))) := Lib.hid fun k hk => by
    obtain ⟨b, off, e, hl, hc⟩ := hR (fun e => by rw [e] at hn; simp at hn; omega)
    exact ⟨b, off, e, hl, fun j hj => hc j (by rw [← hn]; exact hj)⟩
  have HNN : Hid (∀ p, (stL T Ns p).2 ≤ p → bst T Ns p n = none → stL T Ns (p + 1) = stL T Ns p) := Lib.hid fun p h hb => stL_none h (by rw [← hn]; exact hb)
  have HNS : Hid (∀ p i, (stL T Ns p).2 ≤ p → bst T Ns p n = some i → stL T Ns (p + (nAt Ns i).length) = ((stL T Ns p).1 ++ [(p, i)], p + (nAt Ns i).length)) := Lib.hid fun p i h hb => stL_some h (by rw [← hn]; exact hb)
  have HB0 : Hid (∀ p, bst T Ns p 0 = none) := Lib.hid fun p => rfl
  have HBS := Lib.hid (bst_succ T Ns)
  have HBI : Hid (∀ p k i, bst T Ns p k = some i → i < k ∧ 0 < (nAt Ns i).length ∧ p + (nAt Ns i).length ≤ T.length) := Lib.hid fun p k i h => ⟨(bst_st h).2, (stB_facts (bst_st h).1).1, (stB_facts (bst_st h).1).2⟩
  have HS0 : Hid (stL T Ns 0 = ([], 0)) := Lib.hid rfl
  have HFIN : Hid (lgL Ns (hitsL T Ns) = (stL T Ns T.length).1) := Lib.hid rfl
  unfold HitsPost
  rw [HFIN.out]
  have hni : (n : Int) ≤ 1000 := by omega
  have hTi : (T.length : Int) ≤ 1000000 := by omega
  clear hn hR hNs HFIN
  generalize stL T Ns = ST at *
  generalize bst T Ns = BS at *
  generalize stB T Ns = SB at *
  generalize hbT : bsB T = sT at *
  clear hbT
  generalize T.length = tl at *
  go_enter Try.func19, Try.ntmps19
  go_wp2
  go_loopw [5, 6] (fun v q wr => ∃ (p m : Nat) (A1 : Option Addr) (c1 : Nat), v = .slice A1 m c1 ∧ q = .int .i64 p ∧ p ≤ tl ∧ m ≤ p ∧ Hid ((ST p).2 ≤ p) ∧ Hid (m = (ST p).1.length) ∧ Hid (wr.ownsRow w.heap.size 33 2 (.slice A1 m c1) m (htV (ST p).1)) ∧ Hid (Below w.heap.size w wr)) (fun _ q _ => tl - (intOf q).toNat)
  case atStart => exact ⟨0, 0, none, 0, rfl, by go_num, Nat.zero_le _, Nat.le_refl _, Lib.hid (by rw [HS0.out]; exact Nat.le_refl _), Lib.hid (by rw [HS0.out]; rfl), Lib.hid (by rw [HS0.out]; exact World.ownsRow_nil _ _ _ _), Lib.hid (Below.refl _ _)⟩
  case round =>
    obtain ⟨p, m, A1, c1, rfl, rfl, hp, hmp, HE, HM, HO, HB⟩ := hrel
    by_cases hlt : p < tl
    · have hpi : (p : Int) < tl := by omega
      go_wp2
      go_loopw [7, 8] (fun v q wr2 => ∃ k : Nat, v = .int .i64 (bZ (BS p k)) ∧ q = .int .i64 k ∧ k ≤ n ∧ Hid (wr2.ownsRow w.heap.size 33 2 (.slice A1 m c1) m (htV (ST p).1)) ∧ Hid (Below w.heap.size w wr2)) (fun _ q _ => n - (intOf q).toNat)
      case atStart => exact ⟨0, by rw [HB0.out]; rfl, by go_num, Nat.zero_le _, HO, HB⟩
      case round =>
        obtain ⟨k, rfl, rfl, hk, HO2, HB2⟩ := hrel
        by_cases hkn : k < n
        · have hki : (k : Int) < n := by omega
          obtain ⟨b, off, rfl, hbl, hc⟩ := HCE.out k hkn
          have hck : wr.cell? ⟨b, off + k, none⟩ = some (.string (bsB (nAt Ns k))) := (HB2.out.cell (p := ⟨b, off + k, none⟩) hbl).trans (hc k hkn)
          have hbl2 : b < wr.heap.size := Nat.lt_of_lt_of_le hbl HB2.out.size
          have hszk := HSZ.out k
          have HS1 := Lib.hid (HST.out p k)
          have HBK := Lib.hid (HBS.out p k)
          have HOP := Lib.hid (fun W (hb : Below wr.heap.size wr W) => own_past HO2.out hb)
          have HBP := Lib.hid (fun W (hb : Below wr.heap.size wr W) => bel0 HB2.out hb)
          cases hs : SB p k with
          | false =>
            have HB9 : Hid (BS p (k + 1) = BS p k) := Lib.hid (by rw [HBK.out, hs]; rfl)
            rw [hs] at HS1
            clear HBK hc hs
            generalize BS p k = bk at *
            go_wp2
            go_quiet ((go_at_call 24; refine Calls.quiet_of (HS1.out _)))
            have HO3 := Lib.hid (HOP.out _ (belN' wr nq))
            have HB3 := Lib.hid (HBP.out _ (belN' wr nq))
            go_wp2
            go_roundw
            case rel => exact ⟨k + 1, by rw [HB9.out], by go_num, hkn, HO3, HB3⟩
            case measure => simp [intOf]; omega
          | true =>
            rw [hs] at HS1
            cases hb : BS p k with
            | none =>
              have HB9 : Hid (BS p (k + 1) = some k) := Lib.hid (by rw [HBK.out, hs, hb]; rfl)
              have hz : bZ none = -1 := rfl
              rw [hz]
              clear HBK hc hs hb
              go_wp2
              go_quiet ((go_at_call 24; refine Calls.quiet_of (HS1.out _)))
              have HO3 := Lib.hid (HOP.out _ (belN' wr nq))
              have HB3 := Lib.hid (HBP.out _ (belN' wr nq))
              go_wp2
              go_roundw
              case rel => exact ⟨k + 1, by rw [HB9.out]; rfl, by go_num, hkn, HO3, HB3⟩
              case measure => simp [intOf]; omega
            | some i =>
              obtain ⟨hik, hil, hit⟩ := HBI.out p k i hb
              have hini : (i : Int) < n := by omega
              have hci : wr.cell? ⟨b, off + i, none⟩ = some (.string (bsB (nAt Ns i))) := (HB2.out.cell (p := ⟨b, off + i, none⟩) hbl).trans (hc i (by omega))
              have hszi := HSZ.out i
              have hz : bZ (some i) = i := rfl
              rw [hz]
              have HBJ : Hid (BS p (k + 1) = if (nAt Ns i).length < (nAt Ns k).length then some k else some i) := Lib.hid (by rw [HBK.out, hs, hb]; rfl)
              clear HBK hc hs hb
              by_cases hl : (nAt Ns i).length < (nAt Ns k).length
              · have hli : ((nAt Ns i).length : Int) < (nAt Ns k).length := by omega
                have HB9 : Hid (BS p (k + 1) = some k) := Lib.hid (by rw [HBJ.out, if_pos hl])
                clear HBJ
                generalize (nAt Ns i).length = li at *
                generalize (nAt Ns k).length = lk at *
                generalize bsB (nAt Ns i) = sI at *
                generalize bsB (nAt Ns k) = sK at *
                go_wp2
                go_quiet ((go_at_call 24; refine Calls.quiet_of (HS1.out _)))
                have HO3 := Lib.hid (HOP.out _ (belN' wr nq))
                have HB3 := Lib.hid (HBP.out _ (belN' wr nq))
                go_wp2
                go_roundw
                case rel => exact ⟨k + 1, by rw [HB9.out]; rfl, by go_num, hkn, HO3, HB3⟩
                case measure => simp [intOf]; omega
              · have hli : ¬ ((nAt Ns i).length : Int) < (nAt Ns k).length := by omega
                have HB9 : Hid (BS p (k + 1) = some i) := Lib.hid (by rw [HBJ.out, if_neg hl])
                clear HBJ
                generalize (nAt Ns i).length = li at *
                generalize (nAt Ns k).length = lk at *
                generalize bsB (nAt Ns i) = sI at *
                generalize bsB (nAt Ns k) = sK at *
                go_wp2
                go_quiet ((go_at_call 24; refine Calls.quiet_of (HS1.out _)))
                have HO3 := Lib.hid (HOP.out _ (belN' wr nq))
                have HB3 := Lib.hid (HBP.out _ (belN' wr nq))
                go_wp2
                go_roundw
                case rel => exact ⟨k + 1, by rw [HB9.out]; rfl, by go_num, hkn, HO3, HB3⟩
                case measure => simp [intOf]; omega
        · obtain rfl : k = n := by omega
          cases hb : BS p k with
          | none =>
            have HN1 := Lib.hid (HNN.out p HE.out hb)
            have hz : bZ none = -1 := rfl
            rw [hz]
            go_wp2
            go_roundw
            case rel => exact ⟨p + 1, m, A1, c1, rfl, by go_num, hlt, by omega, Lib.hid (by rw [HN1.out]; have := HE.out; omega), Lib.hid (by rw [HN1.out]; exact HM.out), Lib.hid (by rw [HN1.out]; exact HO2.out), HB2⟩
            case measure => simp [intOf]; omega
          | some i =>
            have hz : bZ (some i) = i := rfl
            rw [hz]
            obtain ⟨hik, hil, hit⟩ := HBI.out p k i hb
            have hiki : (i : Int) < k := by omega
            have HN1 := Lib.hid (HNS.out p i HE.out hb)
            obtain ⟨b, off, rfl, hbl, hc⟩ := HCE.out i hik
            have hck := hc i hik
            have hszi := HSZ.out i
            have hHV := htV_snoc (ST p).1 p i
            have HHV := Lib.hid hHV
            have HO3 := Lib.hid (own_past HO2.out (belA (Below.refl wr.heap.size wr) (.cells #[.int .i64 (p : Nat), .int .i64 (i : Nat)] 33)))
            have HB3 := Lib.hid (belA HB2.out (.cells #[.int .i64 (p : Nat), .int .i64 (i : Nat)] 33))
            have hsz := HB3.out.size
            have HC : Hid (∀ W, Below w.heap.size w W → W.cell? ⟨b, off + i, none⟩ = some (.string (bsB (nAt Ns i)))) := Lib.hid fun W hW => (hW.cell (p := ⟨b, off + i, none⟩) hbl).trans hck
            clear hc hck hHV
            generalize (nAt Ns i).length = li at *
            generalize bsB (nAt Ns i) = sI at *
            go_wp2_with (at_builtin; go_must (refine wpList_append_own _ rfl _ _ 26 rfl w.heap.size 33 i0 _ 2 16 Try.underlying26 hi0 hz0 hz1 hz2 rfl (by decide) (.slice A1 m c1) m (htV (ST p).1) rfl HO3.out ⟨wr.heap.size, 0, none⟩ 1 1 [.int .i64 (p : Nat), .int .i64 (i : Nat)] rfl rfl (news2 wr _ _ _) (by simp [Value.oneCell']) (by unfold maxLen; omega) (by omega) hsz ?_; intro v5 w5 hown5 hgrow5 _; obtain ⟨A5, c5, rfl, _⟩ := own_formC hown5; have HO5 := Lib.hid hown5; have HB5 := Lib.hid (HB3.out.grown hgrow5 hsz (fun j e => (HO3.out.lt _ e).1)); have hc5 := HC.out w5 HB5.out; clear hown5 hgrow5))
            go_roundw
            case rel => exact ⟨p + li, m + 1, A5, c5, rfl, by go_num, hit, by omega, Lib.hid (by rw [HN1.out]; exact Nat.le_refl _), Lib.hid (by rw [HN1.out]; show _ = ((ST p).1 ++ [(p, i)]).length; rw [List.length_append, ← HM.out]; rfl), Lib.hid (by rw [HN1.out]; show World.ownsRow _ _ _ _ _ _ (htV ((ST p).1 ++ [(p, i)])); rw [HHV.out]; exact HO5.out), HB5⟩
            case measure => simp [intOf]; omega
    · obtain rfl : p = tl := by omega
      go_wp2
      go_ret
      exact ⟨A1, c1, by rw [← HM.out]; rfl, by rw [← HM.out]; exact HO.out, HB.out⟩

end Go.Proofs.Ytjifekdjkjnefaa
