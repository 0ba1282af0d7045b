/- The walk of the reference's Parse. -/
import Derived.Test.YtmmkcfjncpcabaaDoorKh
import Derived.Test.YtmmkcfjncpcabaaDoorPa
import Derived.Deep.DeepCutAuto
namespace Go.Proofs.YtmmkcfjncpcabaaDoor
open Go.RowKit

def ParsePost (l : List UInt8) (w : World) (e : Ending) (w' : World) : Prop :=
  (headL l = false ∧ e = .returned (.tuple #[.slice none 0 0, .bool false]) ∧ Below w.heap.size w w') ∨
  (headL l = true ∧ ∃ A c, e = .returned (.tuple #[.slice A (HZ l).length c, .bool true]) ∧ RG w' w'.heap.size A (HZ l) ∧ Below w.heap.size w w')
theorem headL_take (l : List UInt8) (k : Nat) (h : k < l.length) (h1 : headL (l.take k) = true) (h2 : headB (l[k]'h) = true) : headL (l.take (k + 1)) = true := by
  rw [List.take_succ_eq_append_getElem h]
  unfold headL at h1 ⊢
  rw [List.all_append, h1]
  simp [h2]
theorem headL_no (l : List UInt8) (k : Nat) (h : k < l.length) (h2 : headB (l[k]'h) = false) : headL l = false := by
  unfold headL
  rw [List.all_eq_false]
  exact ⟨l[k], List.getElem_mem h, by simp [h2]⟩

set_option maxRecDepth 100000 in
set_option maxHeartbeats 8000000 in
theorem refParse_any (s : ByteArray) (w : World) (hs : s.size ≤ 1000) :
    Calls Tryd.prog 54 #[.string s] w (ParsePost s.data.toList w) := by
  have HSZ : Hid (s.data.toList.length = s.size) := Lib.hid (by simp)
  obtain ⟨i0, hi0, hz0, hz1, hz2⟩ := info_parts Tryd.infoInt
  obtain ⟨i1, hi1, hy0, hy1, hy2⟩ := info_parts Tryd.infoInts
  go_enter Tryd.func54, Tryd.ntmps54
  go_wp2
  go_loop [4] (fun i => ∃ k : Nat, k ≤ s.size ∧ i = .int .i64 k ∧ Hid (headL (s.data.toList.take k) = true)) (fun i => s.size - (intOf i).toNat)
  case atStart => exact ⟨0, Nat.zero_le _, rfl, Lib.hid rfl⟩
  case round =>
    obtain ⟨k, hk, rfl, HK⟩ := hrel
    by_cases hlt : k < s.size
    · have hki : (k : Int) < s.size := by omega
      have hkl : k < s.data.toList.length := by rw [HSZ.out]; exact hlt
      obtain ⟨x, hx⟩ : ∃ x, s[k] = x := ⟨_, rfl⟩
      have HX : Hid (s.data.toList[k]'hkl = x) := Lib.hid (by rw [← hx]; rfl)
      by_cases hb : headB x = true
      · have HN := Lib.hid (headL_take s.data.toList k hkl HK.out (by rw [HX.out]; exact hb))
        have h1 : decide (48 ≤ (x.toNat : Int)) = true := by simp [headB] at hb; simp; omega
        have h2 : decide ((x.toNat : Int) ≤ 59) = true := by simp [headB] at hb; simp; omega
        clear hb HX HK
        go_wp2
        go_round
        case rel => exact ⟨k + 1, hlt, by go_num, HN⟩
        case measure => simp [intOf]; omega
      · have hb' : headB x = false := by simpa using hb
        have HN := Lib.hid (headL_no s.data.toList k hkl (by rw [HX.out]; exact hb'))
        have h12 : decide (48 ≤ (x.toNat : Int)) = false ∨ decide (48 ≤ (x.toNat : Int)) = true ∧ decide ((x.toNat : Int) ≤ 59) = false := by
          by_cases h : 48 ≤ (x.toNat : Int)
          · exact .inr ⟨decide_eq_true h, decide_eq_false (fun h2 => hb (by simp [headB]; omega))⟩
          · exact .inl (decide_eq_false h)
        clear hb hb' HX HK
        rcases h12 with h1 | ⟨h1, h2⟩
        all_goals
          go_wp2
          go_ret2
          exact .inl ⟨HN.out, rfl, Below.refl _ _⟩
    · obtain rfl : k = s.size := by omega
      have HL : Hid (headL s.data.toList = true) := Lib.hid (by rw [← HK.out, List.take_of_length_le (by rw [HSZ.out]; exact Nat.le_refl _)])
      clear HK hk hlt
      go_wp2
      go_loopw [5, 6] (fun v i wr => ∃ (k C : Nat) (vo vc : Value) (L : List (List Int)) (vals : List Value) (J : List Int) (z : Int), vo = v ∧ k ≤ s.size ∧ i = .int .i64 k ∧ L.length ≤ k ∧ J.length ≤ k ∧ -1 ≤ z ∧ z ≤ 65535 ∧ Hid (PG wr w.heap.size C vo L vals (J ++ [z]) vc) ∧ Hid (GZ (s.data.toList.take k) = L ++ [J ++ [z]]) ∧ Hid (Below w.heap.size w wr)) (fun _ i _ => s.size - (intOf i).toNat)
      case atStart => exact ⟨0, _, _, _, [], [], [], -1, rfl, Nat.zero_le _, rfl, Nat.le_refl _, Nat.le_refl _, by omega, by omega, Lib.hid (pg_first w (-1)), Lib.hid rfl, Lib.hid (belA (belA (Below.refl _ _) _) _)⟩
      case round =>
        obtain ⟨k, C, vo, vc, L, vals, J, z, rfl, hk, rfl, hLk, hJk, hz1', hz2', HG, HZZ, HB⟩ := hrel
        by_cases hlt : k < s.size
        · have hki : (k : Int) < s.size := by omega
          have hkl : k < s.data.toList.length := by rw [HSZ.out]; exact hlt
          obtain ⟨x, hx⟩ : ∃ x, s[k] = x := ⟨_, rfl⟩
          have HX : Hid (s.data.toList[k]'hkl = x) := Lib.hid (by rw [← hx]; rfl)
          obtain ⟨g, c, rfl, hgB, hgz, hco, hcf⟩ := HG.out.slot
          obtain ⟨Ac, cc, hvc, hAc⟩ := HG.out.form
          obtain ⟨gc, rfl⟩ := hAc (by simp)
          have hlen : (J ++ [z]).length = J.length + 1 := by simp
          rw [hlen] at hvc
          subst hvc
          have HTK : Hid (s.data.toList.take (k + 1) = s.data.toList.take k ++ [x]) := Lib.hid (by rw [List.take_succ_eq_append_getElem hkl, HX.out])
          clear hAc hlen
          by_cases h59 : x.toNat = 59
          · have hxe : x = 59 := UInt8.toNat_inj.1 h59
            have HN : Hid (GZ (s.data.toList.take (k + 1)) = (L ++ [J ++ [z]]) ++ [[] ++ [-1]]) := Lib.hid (by rw [HTK.out, hxe, GZ_semi, HZZ.out]; rfl)
            have e1 : ((x.toNat : Int) == 59) = true := by simp; omega
            have HNX : Hid (∀ w5 v2, ((wr.alloc (.cells #[.int .i64 (-1)] 3)).alloc (.cells #[.slice (some ⟨wr.heap.size, 0, none⟩) 1 1] 48)).grownBy w5 (some g) → w5.ownsRow w.heap.size 48 1 v2 (L.length + 1 + 1) (vals ++ [.slice (some ⟨gc, 0, none⟩) (J.length + 1) cc] ++ [.slice (some ⟨wr.heap.size, 0, none⟩) 1 1]) → PG w5 w.heap.size wr.heap.size v2 (L ++ [J ++ [z]]) (vals ++ [.slice (some ⟨gc, 0, none⟩) (J.length + 1) cc]) ([] ++ [-1]) (.slice (some ⟨wr.heap.size, 0, none⟩) 1 1) ∧ Below w.heap.size w w5) := Lib.hid fun w5 v2 hg h2 => by
              have hB2 : Below wr.heap.size wr ((wr.alloc (.cells #[.int .i64 (-1)] 3)).alloc (.cells #[.slice (some ⟨wr.heap.size, 0, none⟩) 1 1] 48)) := belA (belA (Below.refl _ _) _) _
              have hn := (World.ownsRow_lit (e := 3) (size := 1) wr #[.int .i64 (-1)] 1 (Nat.le_refl _) (by unfold maxLen; omega) rfl).alloc (.cells #[.slice (some ⟨wr.heap.size, 0, none⟩) 1 1] 48)
              exact ⟨HG.out.next hB2 (vn := .slice (some ⟨wr.heap.size, 0, none⟩) 1 1) (new := [] ++ [-1]) hn hg h2, (belA (belA HB.out _) _).grown hg (by have := HB.out.size; simp; omega) (fun j e => by cases e; exact hgB)⟩
            have HOO := Lib.hid ((HG.out.outer.alloc (.cells #[.int .i64 (-1)] 3)).alloc (.cells #[.slice (some ⟨wr.heap.size, 0, none⟩) 1 1] 48))
            have HNW := Lib.hid (news2 wr (.cells #[.int .i64 (-1)] 3) (.slice (some ⟨wr.heap.size, 0, none⟩) 1 1) 48)
            have hsz9 := HB.out.size
            clear h59 hxe HG HZZ HTK HX hcf
            go_wp2_with (at_builtin; go_must (refine wpList_append_own _ rfl _ _ 39 rfl w.heap.size 48 i1 (.slice none 0 0) 1 24 Tryd.underlying39 hi1 hy0 hy1 hy2 rfl (by decide) (.slice (some ⟨g, 0, none⟩) (L.length + 1) c) (L.length + 1) (vals ++ [.slice (some ⟨gc, 0, none⟩) (J.length + 1) cc]) rfl HOO.out ⟨wr.heap.size + 1, 0, none⟩ 1 1 [.slice (some ⟨wr.heap.size, 0, none⟩) 1 1] rfl rfl HNW.out (by simp [Value.oneCell']) (by unfold maxLen; omega) (by omega) (by simp; omega) ?_; intro v2 w5 hown2 hgrow2 _; have HF := Lib.hid (HNX.out w5 v2 hgrow2 hown2); clear hown2 hgrow2))
            go_roundw
            case rel => exact ⟨k + 1, _, v2, _, _, _, [], -1, rfl, hlt, by go_num, by simp; omega, Nat.zero_le _, by omega, by omega, Lib.hid HF.out.1, HN, Lib.hid HF.out.2⟩
            case measure => simp [intOf]; omega
          · by_cases h58 : x.toNat = 58
            · have hxe : x = 58 := UInt8.toNat_inj.1 h58
              have HN : Hid (GZ (s.data.toList.take (k + 1)) = L ++ [(J ++ [z]) ++ [-1]]) := Lib.hid (by rw [HTK.out, hxe, GZ_colon, HZZ.out, modLast_snoc])
              have e1 : ((x.toNat : Int) == 59) = false := by simp; omega
              have e2 : ((x.toNat : Int) == 58) = true := by simp; omega
              have HPA := Lib.hid (HG.out.past ((Below.refl wr.heap.size wr).alloc (Nat.le_refl _) (.cells #[.int .i64 (-1)] 3)))
              have HAFT : Hid (∀ w5 v2, (wr.alloc (.cells #[.int .i64 (-1)] 3)).grownBy w5 (some gc) → w5.ownsRow C 3 1 v2 (J.length + 1 + 1) ((J ++ [z]).map (Value.int .i64) ++ [.int .i64 (-1)]) → w5.cell? ⟨g, L.length, none⟩ = some (.slice (some ⟨gc, 0, none⟩) (J.length + 1) cc) ∧ w5.frozen? ⟨g, L.length, none⟩ = false ∧ PG (w5.setCell ⟨g, L.length, none⟩ v2) w.heap.size C (.slice (some ⟨g, 0, none⟩) (L.length + 1) c) L vals ((J ++ [z]) ++ [-1]) v2 ∧ Below w.heap.size w (w5.setCell ⟨g, L.length, none⟩ v2)) := Lib.hid fun w5 v2 hg h2 => by
                have h := HPA.out.grow (cur2 := (J ++ [z]) ++ [-1]) hg (by simpa using h2)
                exact ⟨h.1, h.2.1, h.2.2.1, h.2.2.2 (belA HB.out _)⟩
              have HCU : Hid ((wr.alloc (.cells #[.int .i64 (-1)] 3)).ownsRow C 3 1 (.slice (some ⟨gc, 0, none⟩) (J.length + 1) cc) (J.length + 1) ((J ++ [z]).map (Value.int .i64))) := Lib.hid (by have := HPA.out.cur; rw [List.length_append] at this; exact this)
              have hCz : C ≤ wr.heap.size := by have := HG.out.cur.lt gc rfl; omega
              clear h58 h59 hxe HG HZZ HTK HX HPA
              generalize hJL : (J ++ [z]).map (Value.int .i64) = JL at *
              clear hJL
              go_wp2_with (at_builtin; go_must (refine wpList_append_own _ rfl _ _ 48 rfl C 3 i0 (.int .i64 0) 1 8 Tryd.underlying48 hi0 hz0 hz1 hz2 rfl (by decide) (.slice (some ⟨gc, 0, none⟩) (J.length + 1) cc) (J.length + 1) JL rfl HCU.out ⟨wr.heap.size, 0, none⟩ 1 1 [.int .i64 (-1)] rfl rfl (news1 wr _ _) (by simp [Value.oneCell']) (by unfold maxLen; omega) (by omega) (by simp; omega) ?_; intro v2 w5 hown2 hgrow2 _; obtain ⟨A5, c5, rfl, _⟩ := own_form hown2; obtain ⟨hc5, hf5, hp5, hb5⟩ := HAFT.out w5 _ hgrow2 hown2; have HP5 := Lib.hid hp5; have HB5 := Lib.hid hb5; clear hown2 hgrow2 hp5 hb5))
              go_roundw
              case rel => exact ⟨k + 1, _, _, _, L, _, J ++ [z], -1, rfl, hlt, by go_num, by omega, by simp; omega, by omega, by omega, HP5, HN, HB5⟩
              case measure => simp [intOf]; omega
            · have hx1 : x ≠ 59 := fun e => h59 (by rw [e]; rfl)
              have hx2 : x ≠ 58 := fun e => h58 (by rw [e]; rfl)
              have hl48 : ∀ y ∈ s.data.toList, 48 ≤ y.toNat ∧ y.toNat ≤ 59 := fun y hy => by
                have := List.all_eq_true.1 HL.out y hy
                simp [headB] at this
                omega
              have hx48 := hl48 x (by rw [← HX.out]; exact List.getElem_mem hkl)
              have HN : Hid (GZ (s.data.toList.take (k + 1)) = L ++ [J ++ [upd x z]]) := Lib.hid (by rw [HTK.out, GZ_digit _ x hx1 hx2 (fun y hy => (hl48 y (List.mem_of_mem_take hy)).1), HZZ.out, modLast_snoc, modLast_snoc])
              have e1 : ((x.toNat : Int) == 59) = false := by simp; omega
              have e2 : ((x.toNat : Int) == 58) = false := by simp; omega
              have hcu : wr.ownsRow C 3 1 (.slice (some ⟨gc, 0, none⟩) (J.length + 1) cc) (J.length + 1) ((J ++ [z]).map (Value.int .i64)) := by
                have := HG.out.cur
                rw [List.length_append] at this
                exact this
              have hcz : wr.cell? ⟨gc, J.length, none⟩ = some (.int .i64 z) := by
                rw [hcu.cellAt J.length (by omega)]
                simp
              have hfz := hcu.frozenAt J.length
              have HST : Hid (∀ y, y = upd x z → PG (wr.setCell ⟨gc, J.length, none⟩ (.int .i64 y)) w.heap.size C (.slice (some ⟨g, 0, none⟩) (L.length + 1) c) L vals (J ++ [upd x z]) (.slice (some ⟨gc, 0, none⟩) (J.length + 1) cc) ∧ Below w.heap.size w (wr.setCell ⟨gc, J.length, none⟩ (.int .i64 y))) := Lib.hid fun y hy => by
                have h := PG.stored (by simp) HG.out J.length y
                rw [show (J ++ [z]).set J.length y = J ++ [y] by simp] at h
                subst hy
                exact ⟨h.1, HB.out.setCell (p := ⟨gc, J.length, none⟩) (Nat.le_trans HG.out.le h.2.2) _⟩
              have HUB : Hid (-1 ≤ upd x z ∧ upd x z ≤ 65535) := Lib.hid (by unfold upd; omega)
              have hx48' := hx48.1
              have hx59' := hx48.2
              clear h58 h59 hx1 hx2 hl48 hx48 HG HZZ HTK HX hcu HB
              by_cases hzn : z < 0
              · have HY := Lib.hid (HST.out ((x.toNat : Int) - 48) (by unfold upd; omega))
                have hbig : decide (65535 < (x.toNat : Int) - 48) = false := decide_eq_false (by omega)
                clear HST
                go_wp2
                go_roundw
                case rel => exact ⟨k + 1, _, _, _, L, _, J, upd x z, rfl, hlt, by go_num, by omega, by omega, HUB.out.1, HUB.out.2, Lib.hid HY.out.1, HN, Lib.hid HY.out.2⟩
                case measure => simp [intOf]; omega
              · have hzd : decide (z < 0) = false := decide_eq_false hzn
                by_cases hbg : 65535 < 10 * z + (x.toNat : Int) - 48
                · have HY := Lib.hid (HST.out 65535 (by unfold upd; omega))
                  have hbig : decide (65535 < 10 * z + (x.toNat : Int) - 48) = true := decide_eq_true hbg
                  clear HST hbg
                  go_wp2
                  go_roundw
                  case rel => exact ⟨k + 1, _, _, _, L, _, J, upd x z, rfl, hlt, by go_num, by omega, by omega, HUB.out.1, HUB.out.2, Lib.hid HY.out.1, HN, Lib.hid HY.out.2⟩
                  case measure => simp [intOf]; omega
                · have HY := Lib.hid (HST.out (10 * z + (x.toNat : Int) - 48) (by unfold upd; omega))
                  have hbig : decide (65535 < 10 * z + (x.toNat : Int) - 48) = false := decide_eq_false hbg
                  clear HST hbg
                  go_wp2
                  go_roundw
                  case rel => exact ⟨k + 1, _, _, _, L, _, J, upd x z, rfl, hlt, by go_num, by omega, by omega, HUB.out.1, HUB.out.2, Lib.hid HY.out.1, HN, Lib.hid HY.out.2⟩
                  case measure => simp [intOf]; omega
        · obtain rfl : k = s.size := by omega
          have hGL : GZ s.data.toList = L ++ [J ++ [z]] := by rw [← HZZ.out, List.take_of_length_le (by rw [HSZ.out]; exact Nat.le_refl _)]
          obtain ⟨g, c, rfl, hgB, hgz, _, _⟩ := HG.out.slot
          have hcap := own_cap HG.out.outer
          obtain ⟨vs, hvs⟩ : ∃ vs, vals ++ [vc] = vs := ⟨_, rfl⟩
          have hall := HG.out.all
          have hout := HG.out.outer
          rw [hvs, ← hGL] at hall
          rw [hvs] at hout
          have hN : L.length + 1 = (GZ s.data.toList).length := by rw [hGL]; simp
          obtain ⟨N, hNe⟩ : ∃ N, min (L.length + 1) 32 = N := ⟨_, rfl⟩
          have HCUT : Hid (wr.ownsRow w.heap.size 48 1 (.slice (some ⟨g, 0, none⟩) N c) N (vs.take N)) := Lib.hid (own_cut hout (by omega))
          have HRW : Hid (RW wr w.heap.size wr.heap.size ((GZ s.data.toList).take 32) (vs.take N)) := Lib.hid (by
            have h := hall.take N
            rw [show (GZ s.data.toList).take N = (GZ s.data.toList).take 32 by
              rw [← hNe, hN, Nat.min_comm, ← List.take_take, List.take_length]] at h
            exact h)
          have HLN : Hid (((GZ s.data.toList).take 32).length = N) := Lib.hid (by rw [List.length_take, ← hN, Nat.min_comm]; exact hNe)
          have HHZ : Hid (HZ s.data.toList = ((GZ s.data.toList).take 32).map (·.take 8)) := Lib.hid rfl
          generalize (GZ s.data.toList).take 32 = G at *
          have hLb : L.length ≤ 1000 := by omega
          have hcase : (decide (32 < (L.length : Int) + 1) = true ∧ N = 32) ∨ (decide (32 < (L.length : Int) + 1) = false ∧ N = L.length + 1) := by
            by_cases h : 32 < (L.length : Int) + 1
            · exact .inl ⟨decide_eq_true h, by omega⟩
            · exact .inr ⟨decide_eq_false h, by omega⟩
          clear hGL hvs hall hout hN hNe HG HZZ
          obtain ⟨C0, hC0⟩ : ∃ C0, wr.heap.size = C0 := ⟨_, rfl⟩
          rw [hC0] at HRW
          clear hC0
          rcases hcase with ⟨hd, hN32⟩ | ⟨hd, hN32⟩
          · subst hN32
            have h32c : (32 : Int) ≤ c := by simp at hd; omega
            have h32n : 32 ≤ c := by omega
            go_wp2
            go_loopw [10] (fun i wr => ∃ (k : Nat) (V : List Value), i = .int .i64 k ∧ k ≤ 32 ∧ Hid (wr.ownsRow w.heap.size 48 1 (.slice (some ⟨g, 0, none⟩) (32) c) (32) V) ∧ Hid (RW wr w.heap.size C0 (cutR G k) V) ∧ Hid (Below w.heap.size w wr)) (fun i _ => 32 - (intOf i).toNat)
            case atStart => exact ⟨0, _, rfl, Nat.zero_le _, HCUT, by rw [show cutR G 0 = G from by simp [cutR]]; exact HRW, HB⟩
            case round =>
              clear HB HCUT HRW
              obtain ⟨k, V, rfl, hk3, HO, HR, HB⟩ := hrel
              by_cases hlt3 : k < 32
              · have hkG : k < G.length := by rw [HLN.out]; exact hlt3
                have hki3 : (k : Int) < 32 := by omega
                have hrow := HR.out.row k (by rw [cutR_len]; exact hkG)
                rw [cutR_get G k hkG] at hrow
                have hkV : k < V.length := by rw [HR.out.len, cutR_len]; exact hkG
                rw [List.getElem?_eq_getElem hkV] at hrow
                obtain ⟨Ai, ci, hvi, hAi⟩ := own_form hrow.1
                have hcell : wr.cell? ⟨g, k, none⟩ = some (.slice Ai (G[k]?.getD []).length ci) := by
                  rw [HO.out.cellAt k (by omega), List.getElem?_eq_getElem hkV]
                  exact congrArg some hvi
                have hfz := HO.out.frozenAt k
                have hcap3 := own_cap (by rw [hvi] at hrow; exact hrow.1)
                have hgC : ∃ cs, wr.heap[g]? = some (.cells cs 48 (0, 0)) := own_type HO.out rfl
                by_cases h8 : 8 < (G[k]?.getD []).length
                · obtain ⟨gi, rfl⟩ := hAi (by omega)
                  have HNX : Hid ((wr.setCell ⟨g, k, none⟩ (.slice (some ⟨gi, 0, none⟩) 8 ci)).ownsRow w.heap.size 48 1 (.slice (some ⟨g, 0, none⟩) (32) c) (32) (V.set k (.slice (some ⟨gi, 0, none⟩) 8 ci)) ∧ RW (wr.setCell ⟨g, k, none⟩ (.slice (some ⟨gi, 0, none⟩) 8 ci)) w.heap.size C0 (cutR G (k + 1)) (V.set k (.slice (some ⟨gi, 0, none⟩) 8 ci)) ∧ Below w.heap.size w (wr.setCell ⟨g, k, none⟩ (.slice (some ⟨gi, 0, none⟩) 8 ci))) := Lib.hid (by
                    obtain ⟨cs, hcs⟩ := hgC
                    have hs := HO.out.stored k (.slice (some ⟨gi, 0, none⟩) 8 ci)
                    have hrk := HR.out.keptT hs.2 hcs ne_ii
                    have hrow1 := hrow.1
                    rw [hvi] at hrow1
                    have hcut := own_cut hrow1 (m := 8) (by omega)
                    have hcutk : (wr.setCell ⟨g, k, none⟩ (.slice (some ⟨gi, 0, none⟩) 8 ci)).ownsRow w.heap.size 3 1 (.slice (some ⟨gi, 0, none⟩) 8 ci) 8 (((G[k]?.getD []).map (Value.int .i64)).take 8) := by
                      refine hcut.kept hs.2 ?_
                      have := own_ne_type hcut HO.out (fun e => ne_ii e.symm)
                      exact this
                    have hset := hrk.set (xs := (G[k]?.getD []).take 8) (v := .slice (some ⟨gi, 0, none⟩) 8 ci) k (by rw [show ((G[k]?.getD []).take 8).length = 8 by rw [List.length_take]; omega, List.map_take]; exact hcutk) (fun b hb => by
                      have := hrow.2 b (by rw [hvi]; exact hb)
                      exact this)
                    rw [cutR_set G k hkG] at hset
                    exact ⟨hs.1, hset, HB.out.setCell (p := ⟨g, k, none⟩) hgB _⟩)
                  have h8i : (8 : Int) < ((G[k]?.getD []).length : Int) := by omega
                  have h8d : decide (8 < (G[k]?.getD []).length) = true := decide_eq_true h8
                  have h8c : 8 ≤ ci := by omega
                  clear hrow hkV HO HR HB hgC hAi hvi hkG
                  generalize (G[k]?.getD []).length = m at *
                  go_wp2
                  go_roundw
                  case rel => exact ⟨k + 1, _, by go_num, hlt3, Lib.hid HNX.out.1, Lib.hid HNX.out.2.1, Lib.hid HNX.out.2.2⟩
                  case measure => simp [intOf]; omega
                · have HNX : Hid (RW wr w.heap.size C0 (cutR G (k + 1)) V) := Lib.hid (by rw [← cutR_same G k hkG (by omega)]; exact HR.out)
                  have h8d : decide (8 < (G[k]?.getD []).length) = false := decide_eq_false h8
                  have h8i : decide (8 < ((G[k]?.getD []).length : Int)) = false := decide_eq_false (by omega)
                  clear hrow hkV HR hgC hAi hvi hkG h8
                  generalize (G[k]?.getD []).length = m at *
                  go_wp2
                  go_roundw
                  case rel => exact ⟨k + 1, V, by go_num, hlt3, HO, HNX, HB⟩
                  case measure => simp [intOf]; omega
              · obtain rfl : k = 32 := by omega
                have HE : Hid (RG wr wr.heap.size (some ⟨g, 0, none⟩) (HZ s.data.toList) ∧ (HZ s.data.toList).length = 32) := Lib.hid (by
                  have hr := HR.out
                  rw [show 32 = G.length from HLN.out.symm, cutR_end, ← HHZ.out] at hr
                  have hl : (HZ s.data.toList).length = 32 := by rw [HHZ.out, List.length_map, HLN.out]
                  exact ⟨RG.of_rows HO.out hl.symm hr, hl⟩)
                clear HR HO
                go_wp2
                go_ret2
                exact .inr ⟨HL.out, _, c, by rw [HE.out.2]; rfl, HE.out.1, HB.out⟩
          · subst hN32
            go_wp2
            go_loopw [10] (fun i wr => ∃ (k : Nat) (V : List Value), i = .int .i64 k ∧ k ≤ L.length + 1 ∧ Hid (wr.ownsRow w.heap.size 48 1 (.slice (some ⟨g, 0, none⟩) (L.length + 1) c) (L.length + 1) V) ∧ Hid (RW wr w.heap.size C0 (cutR G k) V) ∧ Hid (Below w.heap.size w wr)) (fun i _ => L.length + 1 - (intOf i).toNat)
            case atStart => exact ⟨0, _, rfl, Nat.zero_le _, HCUT, by rw [show cutR G 0 = G from by simp [cutR]]; exact HRW, HB⟩
            case round =>
              clear HB HCUT HRW
              obtain ⟨k, V, rfl, hk3, HO, HR, HB⟩ := hrel
              by_cases hlt3 : k < L.length + 1
              · have hkG : k < G.length := by rw [HLN.out]; exact hlt3
                have hki3 : (k : Int) < L.length + 1 := by omega
                have hrow := HR.out.row k (by rw [cutR_len]; exact hkG)
                rw [cutR_get G k hkG] at hrow
                have hkV : k < V.length := by rw [HR.out.len, cutR_len]; exact hkG
                rw [List.getElem?_eq_getElem hkV] at hrow
                obtain ⟨Ai, ci, hvi, hAi⟩ := own_form hrow.1
                have hcell : wr.cell? ⟨g, k, none⟩ = some (.slice Ai (G[k]?.getD []).length ci) := by
                  rw [HO.out.cellAt k (by omega), List.getElem?_eq_getElem hkV]
                  exact congrArg some hvi
                have hfz := HO.out.frozenAt k
                have hcap3 := own_cap (by rw [hvi] at hrow; exact hrow.1)
                have hgC : ∃ cs, wr.heap[g]? = some (.cells cs 48 (0, 0)) := own_type HO.out rfl
                by_cases h8 : 8 < (G[k]?.getD []).length
                · obtain ⟨gi, rfl⟩ := hAi (by omega)
                  have HNX : Hid ((wr.setCell ⟨g, k, none⟩ (.slice (some ⟨gi, 0, none⟩) 8 ci)).ownsRow w.heap.size 48 1 (.slice (some ⟨g, 0, none⟩) (L.length + 1) c) (L.length + 1) (V.set k (.slice (some ⟨gi, 0, none⟩) 8 ci)) ∧ RW (wr.setCell ⟨g, k, none⟩ (.slice (some ⟨gi, 0, none⟩) 8 ci)) w.heap.size C0 (cutR G (k + 1)) (V.set k (.slice (some ⟨gi, 0, none⟩) 8 ci)) ∧ Below w.heap.size w (wr.setCell ⟨g, k, none⟩ (.slice (some ⟨gi, 0, none⟩) 8 ci))) := Lib.hid (by
                    obtain ⟨cs, hcs⟩ := hgC
                    have hs := HO.out.stored k (.slice (some ⟨gi, 0, none⟩) 8 ci)
                    have hrk := HR.out.keptT hs.2 hcs ne_ii
                    have hrow1 := hrow.1
                    rw [hvi] at hrow1
                    have hcut := own_cut hrow1 (m := 8) (by omega)
                    have hcutk : (wr.setCell ⟨g, k, none⟩ (.slice (some ⟨gi, 0, none⟩) 8 ci)).ownsRow w.heap.size 3 1 (.slice (some ⟨gi, 0, none⟩) 8 ci) 8 (((G[k]?.getD []).map (Value.int .i64)).take 8) := by
                      refine hcut.kept hs.2 ?_
                      have := own_ne_type hcut HO.out (fun e => ne_ii e.symm)
                      exact this
                    have hset := hrk.set (xs := (G[k]?.getD []).take 8) (v := .slice (some ⟨gi, 0, none⟩) 8 ci) k (by rw [show ((G[k]?.getD []).take 8).length = 8 by rw [List.length_take]; omega, List.map_take]; exact hcutk) (fun b hb => by
                      have := hrow.2 b (by rw [hvi]; exact hb)
                      exact this)
                    rw [cutR_set G k hkG] at hset
                    exact ⟨hs.1, hset, HB.out.setCell (p := ⟨g, k, none⟩) hgB _⟩)
                  have h8i : (8 : Int) < ((G[k]?.getD []).length : Int) := by omega
                  have h8d : decide (8 < (G[k]?.getD []).length) = true := decide_eq_true h8
                  have h8c : 8 ≤ ci := by omega
                  clear hrow hkV HO HR HB hgC hAi hvi hkG
                  generalize (G[k]?.getD []).length = m at *
                  go_wp2
                  go_roundw
                  case rel => exact ⟨k + 1, _, by go_num, hlt3, Lib.hid HNX.out.1, Lib.hid HNX.out.2.1, Lib.hid HNX.out.2.2⟩
                  case measure => simp [intOf]; omega
                · have HNX : Hid (RW wr w.heap.size C0 (cutR G (k + 1)) V) := Lib.hid (by rw [← cutR_same G k hkG (by omega)]; exact HR.out)
                  have h8d : decide (8 < (G[k]?.getD []).length) = false := decide_eq_false h8
                  have h8i : decide (8 < ((G[k]?.getD []).length : Int)) = false := decide_eq_false (by omega)
                  clear hrow hkV HR hgC hAi hvi hkG h8
                  generalize (G[k]?.getD []).length = m at *
                  go_wp2
                  go_roundw
                  case rel => exact ⟨k + 1, V, by go_num, hlt3, HO, HNX, HB⟩
                  case measure => simp [intOf]; omega
              · obtain rfl : k = L.length + 1 := by omega
                have HE : Hid (RG wr wr.heap.size (some ⟨g, 0, none⟩) (HZ s.data.toList) ∧ (HZ s.data.toList).length = L.length + 1) := Lib.hid (by
                  have hr := HR.out
                  rw [show L.length + 1 = G.length from HLN.out.symm, cutR_end, ← HHZ.out] at hr
                  have hl : (HZ s.data.toList).length = L.length + 1 := by rw [HHZ.out, List.length_map, HLN.out]
                  exact ⟨RG.of_rows HO.out hl.symm hr, hl⟩)
                clear HR HO
                go_wp2
                go_ret2
                exact .inr ⟨HL.out, _, c, by rw [HE.out.2]; rfl, HE.out.1, HB.out⟩

end Go.Proofs.YtmmkcfjncpcabaaDoor
