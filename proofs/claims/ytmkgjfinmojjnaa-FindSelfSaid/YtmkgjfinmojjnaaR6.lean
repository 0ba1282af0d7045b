/- The law FindSelf. -/
import Derived.Test.YtmkgjfinmojjnaaR5
import Derived.Laws.IdiomStrings
import Derived.Lib.Strings
namespace Go.Proofs.Ytmkgjfinmojjnaa
open Go.RowKit

theorem infoU8F : (Try.prog.info? 5).map (fun i => (i.zero, i.size, i.bytes)) = some (some (.int .u8 0), 1, 1) := by kernel_rfl
def upL (c : UInt8) : UInt8 := if 97 ≤ c ∧ c ≤ 122 then c - 32 else c
theorem up_in {c : UInt8} {n : Nat} (hn : n = c.toNat) (h1 : 97 ≤ n) (h2 : n ≤ 122) : (upL c).toNat = n - 32 := by
  unfold upL
  rw [if_pos (by simp [UInt8.le_iff_toNat_le]; omega), UInt8.toNat_sub_of_le _ _ (by rw [UInt8.le_iff_toNat_le]; show 32 ≤ _; omega), hn]
  rfl
theorem up_out {c : UInt8} {n : Nat} (hn : n = c.toNat) (h : n < 97 ∨ 122 < n) : (upL c).toNat = n := by
  unfold upL
  rw [if_neg (by simp [UInt8.le_iff_toNat_le]; omega), hn]
theorem low_up (c : UInt8) : lowL (upL c) = lowL c := by
  apply UInt8.toNat.inj
  by_cases h : 97 ≤ c.toNat ∧ c.toNat ≤ 122
  · have h1 := up_in rfl h.1 h.2
    rw [low_in rfl (by omega) (by omega), h1, low_out rfl (.inr (by omega))]
    omega
  · have h1 : upL c = c := by
      unfold upL
      rw [if_neg (by simp [UInt8.le_iff_toNat_le]; omega)]
    rw [h1]
theorem self_mem (m : UInt8 → UInt8) (H N U X : List UInt8) (hN : N ≠ []) (hl : U.length = N.length) (hu : ∀ i, i < N.length → m (U[i]?.getD 0) = m (N[i]?.getD 0)) : H.length ∈ pls m (H ++ U ++ X) N := by
  unfold pls
  rw [if_neg hN]
  unfold plU
  refine List.mem_filter.2 ⟨List.mem_range.2 (by simp; omega), decide_eq_true ⟨by simp; omega, fun i hi => ?_⟩⟩
  unfold mt
  rw [List.append_assoc, List.getElem?_append_right (by omega), show H.length + i - H.length = i by omega, List.getElem?_append_left (by omega)]
  exact hu i hi
def byV (T : List UInt8) : List Value := T.map fun c => .int .u8 c.toNat
theorem byV_snoc (T : List UInt8) (c : UInt8) : byV (T ++ [c]) = byV T ++ [.int .u8 c.toNat] := by simp [byV]
theorem conv_ownF {w : World} {B n c : Nat} {A : Option Addr} {T : List UInt8} (h : w.ownsRow B 5 1 (.slice A n c) n (byV T)) (hn : n = T.length) (hz : T ≠ []) :
    (Go.convert 33 9 (.slice A n c)).run Try.prog w = .ok (.string (bsB T)) w := by
  subst hn
  obtain ⟨A', c', e, hA⟩ := own_form h
  injection e with e1 _ _
  subst e1
  obtain ⟨g, rfl⟩ := hA (List.length_pos_iff.2 hz)
  exact run_convert_bytes_back (P := Try.prog) w 33 9 5 ⟨g, 0, none⟩ c T (by kernel_rfl) (by kernel_rfl) (by kernel_rfl) (fun j hj => by
    have ea : (⟨g, 0, none⟩ : Addr).add j = ⟨g, j, none⟩ := by
      unfold Addr.add
      split <;> simp_all
    rw [ea, h.cellAt j (by omega), byV, List.getElem?_map, List.getElem?_eq_getElem hj]
    rfl)
set_option maxRecDepth 100000 in
set_option maxHeartbeats 4000000 in
theorem has_any (L : List Nat) (n c h b : Nat) (hn : n = L.length) (hl : n ≤ 1000000) (A : Option Addr) (s : ByteArray) (hs : s.size = h) (hm : h ∈ L) (w : World) (hb : b < w.heap.size) (hc : w.cell? ⟨b, 0, none⟩ = some (.string s)) (hR : RI w w.heap.size A (zsN L)) :
    Calls Try.prog 17 #[.slice A n c, .pointer (some ⟨b, 0, none⟩)] w fun e w' => e = .returned (.bool true) ∧ Below w.heap.size w w' := by
  have hsi : (s.size : Int) = h := by rw [hs]
  have HR := Lib.hid hR
  have HN := Lib.hid hn
  have HM := Lib.hid hm
  have HC : Hid (∀ W, Below w.heap.size w W → W.cell? ⟨b, 0, none⟩ = some (.string s)) := Lib.hid fun W hW => (hW.cell (p := ⟨b, 0, none⟩) hb).trans hc
  clear hR hn hm hs hb hc
  go_enter Try.func17, Try.ntmps17
  go_wp2
  go_loopw [4] (fun q wr => ∃ k : Nat, q = .int .i64 k ∧ k ≤ n ∧ Hid (∀ j, j < k → L[j]?.getD 0 ≠ h) ∧ Hid (Below w.heap.size w wr)) (fun q _ => n - (intOf q).toNat)
  case atStart => exact ⟨0, by go_num, Nat.zero_le _, Lib.hid fun j hj => absurd hj (Nat.not_lt_zero j), Lib.hid (Below.refl _ _)⟩
  case round =>
    obtain ⟨k, rfl, hk, HK, HB⟩ := hrel
    by_cases hlt : k < n
    · have hki : (k : Int) < n := by omega
      obtain ⟨b', off, rfl, hblt, hc⟩ := HR.out (fun e => by have h1 := congrArg List.length e; rw [zsN_len] at h1; have h2 : L.length = 0 := h1; have := HN.out; omega)
      have hck := hc k (by rw [zsN_len, ← HN.out]; exact hlt)
      rw [zsN_at] at hck
      have hck2 : wr.cell? ⟨b', off + k, none⟩ = some (.int .i64 (L[k]?.getD 0 : Nat)) := (HB.out.cell (p := ⟨b', off + k, none⟩) hblt).trans hck
      have hcb := HC.out wr HB.out
      have HBN := Lib.hid (fun n => bel0 HB.out (belN' wr n))
      have HNX : Hid (L[k]?.getD 0 ≠ h → ∀ j, j < k + 1 → L[j]?.getD 0 ≠ h) := Lib.hid fun hne j hj => by
        rcases Nat.lt_or_ge j k with h1 | h1
        · exact HK.out j h1
        · obtain rfl : j = k := by omega
          exact hne
      clear hc hblt hck HB HK
      generalize L[k]?.getD 0 = x at *
      go_wp2_with fail
      go_quiet (fail)
      have HB2 := Lib.hid (HBN.out nq)
      clear HBN hck2 hcb
      generalize wr.drewN nq = wq at *
      by_cases hx : x = h
      · have hxb : ((x : Int) == h) = true := by simp; omega
        clear hx HNX
        go_wp2
        go_ret
        exact ⟨rfl, HB2.out⟩
      · have hxb : ((x : Int) == h) = false := by simp; omega
        have HZ := Lib.hid (HNX.out hx)
        clear hx HNX
        go_wp2
        go_roundw
        case rel => exact ⟨k + 1, by go_num, hlt, HZ, HB2⟩
        case measure => simp [intOf]; omega
    · exfalso
      obtain ⟨j, hj, e⟩ := List.getElem_of_mem HM.out
      exact HK.out j (by have := HN.out; omega) (by rw [List.getElem?_eq_getElem hj]; exact e)
set_option maxRecDepth 100000 in
set_option maxHeartbeats 8000000 in
theorem findSelf_law (H N X : List UInt8) (w : World) : Calls Try.prog 7 #[.string (bsB H), .string (bsB N), .string (bsB X)] w fun e w' => e = .returned (.bool true) ∧ Below w.heap.size w w' := by
  obtain ⟨i0, hi0, hz0, hz1, hz2⟩ := info_parts infoU8F
  have HAW := Lib.hid awake_any
  have hsH : ((bsB H).size : Int) = H.length := by rw [bsB_size]
  have hsX : ((bsB X).size : Int) = X.length := by rw [bsB_size]
  have hsN : ((bsB N).size : Int) = N.length := by rw [bsB_size]
  obtain ⟨w1, hw1⟩ : ∃ w1, w1 = w.alloc (.cells #[.string (bsB H)] 9) := ⟨_, rfl⟩
  have hb1 : Below w.heap.size w w1 := by rw [hw1]; exact belA (Below.refl _ _) _
  have HB1 := Lib.hid hb1
  have hc1 : w1.cell? ⟨w.heap.size, 0, none⟩ = some (.string (bsB H)) := by rw [hw1]; exact cell_of_row _ _ 0 _ _ _ (heap_alloc_new w _)
  have hs1 : w.heap.size < w1.heap.size := by rw [hw1]; simp
  by_cases hH : H.length ≤ 100
  · have hHi : ¬ ((100 : Int) < H.length) := by omega
    by_cases hX : X.length ≤ 100
    · have hXi : ¬ ((100 : Int) < X.length) := by omega
      by_cases hN : N.length ≤ 100
      · have hNi : ¬ ((100 : Int) < N.length) := by omega
        by_cases hN0 : N = []
        · have hem : ((bsB N).toList == ([] : List UInt8)) = true := by rw [bs_toList, hN0]; rfl
          have HW1 := Lib.hid hw1
          clear hH hX hN hN0 hb1 hc1 hs1 hw1
          generalize bsB H = sH at *
          generalize bsB N = sN at *
          generalize bsB X = sX at *
          go_enter Try.func7, Try.ntmps7
          go_wp2_with (go_at_call 8; (with_reducible refine (HAW.out _).mono ?_); rintro e w8 ⟨rfl, hb8⟩; rw [← HW1.out] at hb8; have HB8 := Lib.hid (bel0 HB1.out hb8); clear hb8)
          go_ret
          exact ⟨rfl, HB8.out⟩
        · have hem : ((bsB N).toList == ([] : List UInt8)) = false := by rw [bs_toList]; simpa using hN0
          have hl0 := plU_len idL (H ++ N ++ X) N
          have hl1 := plU_len lowL (H ++ N.map upL ++ X) N
          rw [List.length_append, List.length_append] at hl0 hl1
          rw [List.length_map] at hl1
          have HP0 : Hid (∀ W, Calls Try.prog 11 #[.string (bsB H ++ bsB N ++ bsB X), .string (bsB N)] W fun e w' => ∃ A c, e = .returned (.slice A (pls idL (H ++ N ++ X) N).length c) ∧ RI w' w'.heap.size A (zsN (pls idL (H ++ N ++ X) N)) ∧ Below W.heap.size W w') := Lib.hid fun W => by
            rw [bsB_app, bsB_app]
            exact (all_any (H ++ N ++ X) N (by rw [List.length_append, List.length_append]; omega) (by omega) W).mono fun e w' ⟨A, c, he, ho, hb⟩ => ⟨A, c, he, ri_of ho, hb⟩
          have HP1 : Hid (∀ W, Calls Try.prog 12 #[.string (bsB H ++ bsB (N.map upL) ++ bsB X), .string (bsB N)] W fun e w' => ∃ A c, e = .returned (.slice A (pls lowL (H ++ N.map upL ++ X) N).length c) ∧ RI w' w'.heap.size A (zsN (pls lowL (H ++ N.map upL ++ X) N)) ∧ Below W.heap.size W w') := Lib.hid fun W => by
            rw [bsB_app, bsB_app]
            exact (looseF_any (H ++ N.map upL ++ X) N (by rw [List.length_append, List.length_append, List.length_map]; omega) (by omega) W).mono fun e w' ⟨A, c, he, ho, hb⟩ => ⟨A, c, he, ri_of ho, hb⟩
          have HM0 := self_mem idL H N N X hN0 rfl (fun _ _ => rfl)
          have HM1 := self_mem lowL H N (N.map upL) X hN0 (List.length_map ..) (fun i hi => by
            rw [List.getElem?_map, List.getElem?_eq_getElem hi]
            exact low_up _)
          have HH0 : Hid (∀ W A c, w.heap.size < W.heap.size → W.cell? ⟨w.heap.size, 0, none⟩ = some (.string (bsB H)) → RI W W.heap.size A (zsN (pls idL (H ++ N ++ X) N)) → Calls Try.prog 17 #[.slice A (pls idL (H ++ N ++ X) N).length c, .pointer (some ⟨w.heap.size, 0, none⟩)] W fun e w' => e = .returned (.bool true) ∧ Below W.heap.size W w') := Lib.hid fun W A c h1 h2 h3 => has_any _ _ c H.length w.heap.size rfl (by omega) A (bsB H) (bsB_size H) HM0 W h1 h2 h3
          have HH1 : Hid (∀ W A c, w.heap.size < W.heap.size → W.cell? ⟨w.heap.size, 0, none⟩ = some (.string (bsB H)) → RI W W.heap.size A (zsN (pls lowL (H ++ N.map upL ++ X) N)) → Calls Try.prog 17 #[.slice A (pls lowL (H ++ N.map upL ++ X) N).length c, .pointer (some ⟨w.heap.size, 0, none⟩)] W fun e w' => e = .returned (.bool true) ∧ Below W.heap.size W w') := Lib.hid fun W A c h1 h2 h3 => has_any _ _ c H.length w.heap.size rfl (by omega) A (bsB H) (bsB_size H) HM1 W h1 h2 h3
          have HCV : Hid (∀ W A n c, n = N.length → W.ownsRow w1.heap.size 5 1 (.slice A n c) n (byV (N.map upL)) → (Go.convert 33 9 (.slice A n c)).run Try.prog W = .ok (.string (bsB (N.map upL))) W) := Lib.hid fun W A n c hn ho => conv_ownF ho (by rw [List.length_map]; exact hn) (by simpa using hN0)
          have HBX : Hid (∀ W, Below w1.heap.size w1 W → W.cell? ⟨w.heap.size, 0, none⟩ = some (.string (bsB H)) ∧ w.heap.size < W.heap.size) := Lib.hid fun W hW => ⟨(hW.cell (p := ⟨w.heap.size, 0, none⟩) hs1).trans hc1, Nat.lt_of_lt_of_le hs1 hW.size⟩
          have HIN : Hid (∀ k x, k < N.length → x = (N[k]?.getD 0).toNat → ∀ W, (Instr.index 9 (.string (bsB N)) (.int .i64 k)).run Try.prog W = .ok (.int .u8 x) W) := Lib.hid (idx_as N)
          have HTK : Hid (∀ k, k < N.length → byV ((N.take (k + 1)).map upL) = byV ((N.take k).map upL) ++ [.int .u8 (upL (N[k]?.getD 0)).toNat]) := Lib.hid fun k hk => by
            rw [List.take_succ_eq_append_getElem hk, List.getElem?_eq_getElem hk, List.map_append]
            exact byV_snoc _ _
          have HFL : Hid (byV ((N.take N.length).map upL) = byV (N.map upL)) := Lib.hid (by rw [List.take_length])
          have hsU : ((bsB (N.map upL)).size : Int) = N.length := by rw [bsB_size, List.length_map]
          have HW1 := Lib.hid hw1
          clear HM0 HM1 hl0 hl1 hN0 hc1 hs1 hb1 hw1
          generalize zsN (pls idL (H ++ N ++ X) N) = z0 at *
          generalize zsN (pls lowL (H ++ N.map upL ++ X) N) = z1 at *
          generalize (pls idL (H ++ N ++ X) N).length = n0 at *
          generalize (pls lowL (H ++ N.map upL ++ X) N).length = n1 at *
          generalize bsB H = sH at *
          generalize bsB (N.map upL) = sU at *
          generalize bsB N = sN at *
          generalize bsB X = sX at *
          generalize hnl : N.length = nl at *
          clear hnl
          go_enter Try.func7, Try.ntmps7
          go_wp2
          rw [← HW1.out]
          go_loopw [7, 8] (fun v7 v8 wr => ∃ (k : Nat) (A : Option Addr) (c : Nat), v7 = .slice A k c ∧ v8 = .int .i64 k ∧ k ≤ nl ∧ Hid (wr.ownsRow w1.heap.size 5 1 (.slice A k c) k (byV ((N.take k).map upL))) ∧ Hid (Below w1.heap.size w1 wr)) (fun _ v8 _ => nl - (intOf v8).toNat)
          case atStart => exact ⟨0, none, 0, rfl, by go_num, Nat.zero_le _, Lib.hid (World.ownsRow_nil _ _ _ _), Lib.hid (Below.refl _ _)⟩
          case round =>
            obtain ⟨k, A, c, rfl, rfl, hk, HO, HB⟩ := hrel
            by_cases hlt : k < nl
            · have hki : (k : Int) < nl := by omega
              obtain ⟨x, hx⟩ : ∃ x, x = (N[k]?.getD 0).toNat := ⟨_, rfl⟩
              have i0' := HIN.out k x hlt hx
              have hxb : x < 256 := by rw [hx]; exact UInt8.toNat_lt _
              have HX := Lib.hid hx
              have HT := Lib.hid (HTK.out k hlt)
              have hsz := fun o => (belA HB.out o).size
              clear hx
              generalize N[k]?.getD 0 = y at *
              generalize byV ((N.take k).map upL) = os at *
              by_cases hin : 97 ≤ x ∧ x ≤ 122
              · have HU := Lib.hid (up_in HX.out hin.1 hin.2)
                have hx1 : (97 : Int) ≤ x := by omega
                have hx2 : (x : Int) ≤ 122 := by omega
                have hwx : IntKind.u8.wrap ((x : Int) - 32) = ((x - 32 : Nat) : Int) := by rw [IntKind.wrap_u8]; omega
                obtain ⟨z, hz⟩ : ∃ z, z = x - 32 := ⟨_, rfl⟩
                have HT2 : Hid (byV ((N.take (k + 1)).map upL) = os ++ [.int .u8 (z : Nat)]) := Lib.hid (by rw [HT.out, HU.out, hz])
                rw [← hz] at hwx
                clear hz hin HU HT HX
                go_wp2_with (at_builtin; go_must (refine wpList_append_own _ rfl _ _ 33 rfl w1.heap.size 5 i0 (.int .u8 0) 1 1 Try.underlying33 hi0 hz0 hz1 hz2 rfl (by decide) (.slice A k c) k os rfl (HO.out.alloc _) ⟨wr.heap.size, 0, none⟩ 1 1 [.int .u8 (z : Nat)] rfl rfl (news1 wr _ _) (by simp [Value.oneCell']) (by unfold maxLen; omega) (by omega) (hsz _) ?_; intro v5 w5 hown5 hgrow5 _; obtain ⟨A5, c5, rfl, _⟩ := own_formC hown5; have HO5 := Lib.hid hown5; have HB5 := Lib.hid ((belA HB.out _).grown hgrow5 (hsz _) (fun j e => ((HO.out.alloc (.cells #[.int .u8 (z : Nat)] 5)).lt _ e).1)); clear hown5 hgrow5))
                go_roundw
                case rel => exact ⟨k + 1, A5, c5, rfl, by go_num, hlt, Lib.hid (by rw [HT2.out]; exact HO5.out), HB5⟩
                case measure => simp [intOf]; omega
              · have HU := Lib.hid (up_out HX.out (by omega))
                have HT2 : Hid (byV ((N.take (k + 1)).map upL) = os ++ [.int .u8 (x : Nat)]) := Lib.hid (by rw [HT.out, HU.out])
                rcases (show x < 97 ∨ (97 ≤ x ∧ 122 < x) by omega) with hx1 | hx1
                · have hx2 : ¬ (97 : Int) ≤ x := by omega
                  clear hin HU HT HX
                  go_wp2_with (at_builtin; go_must (refine wpList_append_own _ rfl _ _ 33 rfl w1.heap.size 5 i0 (.int .u8 0) 1 1 Try.underlying33 hi0 hz0 hz1 hz2 rfl (by decide) (.slice A k c) k os rfl (HO.out.alloc _) ⟨wr.heap.size, 0, none⟩ 1 1 [.int .u8 (x : Nat)] rfl rfl (news1 wr _ _) (by simp [Value.oneCell']) (by unfold maxLen; omega) (by omega) (hsz _) ?_; intro v5 w5 hown5 hgrow5 _; obtain ⟨A5, c5, rfl, _⟩ := own_formC hown5; have HO5 := Lib.hid hown5; have HB5 := Lib.hid ((belA HB.out _).grown hgrow5 (hsz _) (fun j e => ((HO.out.alloc (.cells #[.int .u8 (x : Nat)] 5)).lt _ e).1)); clear hown5 hgrow5))
                  go_roundw
                  case rel => exact ⟨k + 1, A5, c5, rfl, by go_num, hlt, Lib.hid (by rw [HT2.out]; exact HO5.out), HB5⟩
                  case measure => simp [intOf]; omega
                · have hx2 : (97 : Int) ≤ x := by omega
                  have hx3 : ¬ (x : Int) ≤ 122 := by omega
                  clear hin HU HT HX
                  go_wp2_with (at_builtin; go_must (refine wpList_append_own _ rfl _ _ 33 rfl w1.heap.size 5 i0 (.int .u8 0) 1 1 Try.underlying33 hi0 hz0 hz1 hz2 rfl (by decide) (.slice A k c) k os rfl (HO.out.alloc _) ⟨wr.heap.size, 0, none⟩ 1 1 [.int .u8 (x : Nat)] rfl rfl (news1 wr _ _) (by simp [Value.oneCell']) (by unfold maxLen; omega) (by omega) (hsz _) ?_; intro v5 w5 hown5 hgrow5 _; obtain ⟨A5, c5, rfl, _⟩ := own_formC hown5; have HO5 := Lib.hid hown5; have HB5 := Lib.hid ((belA HB.out _).grown hgrow5 (hsz _) (fun j e => ((HO.out.alloc (.cells #[.int .u8 (x : Nat)] 5)).lt _ e).1)); clear hown5 hgrow5))
                  go_roundw
                  case rel => exact ⟨k + 1, A5, c5, rfl, by go_num, hlt, Lib.hid (by rw [HT2.out]; exact HO5.out), HB5⟩
                  case measure => simp [intOf]; omega
            · obtain rfl : k = nl := by omega
              have HOZ : Hid (wr.ownsRow w1.heap.size 5 1 (.slice A k c) k (byV (N.map upL))) := Lib.hid (by rw [← HFL.out]; exact HO.out)
              have HCX : Hid (∀ W, Below wr.heap.size wr W → (W.cell? ⟨w.heap.size, 0, none⟩ = some (.string sH) ∧ w.heap.size < W.heap.size) ∧ (Go.convert 33 9 (.slice A k c)).run Try.prog W = .ok (.string sU) W ∧ Below w.heap.size w W) := Lib.hid fun W hW => ⟨HBX.out W (bel0 HB.out hW), HCV.out W A k c rfl (own_past HOZ.out hW), bel0 HB1.out (bel0 HB.out hW)⟩
              obtain ⟨⟨cx, sx⟩, _, _⟩ := HCX.out wr (Below.refl _ _)
              clear HO HOZ HFL HTK HCV HIN HB HBX
              go_wp2_with (first
                | (go_at_call 11; (with_reducible refine (HP0.out wr).mono ?_); rintro e w2 ⟨A2, c2, rfl, hr2, hb2⟩; obtain ⟨⟨cx2, sx2⟩, _, _⟩ := HCX.out w2 hb2; have HX2 := Lib.hid hr2; have HB2 := Lib.hid hb2; clear hr2 hb2 HP0)
                | (go_at_call 17; (with_reducible refine (HH0.out w2 A2 c2 sx2 cx2 HX2.out).mono ?_); rintro e w3 ⟨rfl, hb3⟩; obtain ⟨⟨cx3, sx3⟩, cv3, _⟩ := HCX.out w3 (bel0 HB2.out hb3); have HB3 := Lib.hid (bel0 HB2.out hb3); clear hb3 HH0 HX2)
                | (go_at_call 12; (with_reducible refine (HP1.out w3).mono ?_); rintro e w4 ⟨A4, c4, rfl, hr4, hb4⟩; obtain ⟨⟨cx4, sx4⟩, _, _⟩ := HCX.out w4 (bel0 HB3.out hb4); have HX4 := Lib.hid hr4; have HB4 := Lib.hid (bel0 HB3.out hb4); clear hr4 hb4 HP1)
                | (go_at_call 17; (with_reducible refine (HH1.out w4 A4 c4 sx4 cx4 HX4.out).mono ?_); rintro e w5 ⟨rfl, hb5⟩; have HB5 := Lib.hid (bel0 HB4.out hb5); clear hb5 HH1 HX4)
                | (go_at_call 8; (with_reducible refine (HAW.out w5).mono ?_); rintro e w8 ⟨rfl, hb8⟩; have HB8 := Lib.hid ((HCX.out _ (bel0 HB5.out hb8)).2.2); clear hb8))
              go_ret
              exact ⟨rfl, HB8.out⟩
      · have hNi : (100 : Int) < N.length := by omega
        have HW1 := Lib.hid hw1
        clear hH hX hN hb1 hc1 hs1 hw1
        generalize bsB H = sH at *
        generalize bsB N = sN at *
        generalize bsB X = sX at *
        go_enter Try.func7, Try.ntmps7
        go_wp2_with (go_at_call 8; (with_reducible refine (HAW.out _).mono ?_); rintro e w8 ⟨rfl, hb8⟩; rw [← HW1.out] at hb8; have HB8 := Lib.hid (bel0 HB1.out hb8); clear hb8)
        go_ret
        exact ⟨rfl, HB8.out⟩
    · have hXi : (100 : Int) < X.length := by omega
      have HW1 := Lib.hid hw1
      clear hH hX hb1 hc1 hs1 hw1
      generalize bsB H = sH at *
      generalize bsB N = sN at *
      generalize bsB X = sX at *
      go_enter Try.func7, Try.ntmps7
      go_wp2_with (go_at_call 8; (with_reducible refine (HAW.out _).mono ?_); rintro e w8 ⟨rfl, hb8⟩; rw [← HW1.out] at hb8; have HB8 := Lib.hid (bel0 HB1.out hb8); clear hb8)
      go_ret
      exact ⟨rfl, HB8.out⟩
  · have hHi : (100 : Int) < H.length := by omega
    have HW1 := Lib.hid hw1
    clear hH hb1 hc1 hs1 hw1
    generalize bsB H = sH at *
    generalize bsB N = sN at *
    generalize bsB X = sX at *
    go_enter Try.func7, Try.ntmps7
    go_wp2_with (go_at_call 8; (with_reducible refine (HAW.out _).mono ?_); rintro e w8 ⟨rfl, hb8⟩; rw [← HW1.out] at hb8; have HB8 := Lib.hid (bel0 HB1.out hb8); clear hb8)
    go_ret
    exact ⟨rfl, HB8.out⟩

end Go.Proofs.Ytmkgjfinmojjnaa
