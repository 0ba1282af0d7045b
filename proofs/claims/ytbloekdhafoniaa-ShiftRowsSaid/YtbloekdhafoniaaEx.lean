/- The walk of the document's rows. -/
import Derived.Test.YtbloekdhafoniaaEt
namespace Go.Proofs.Ytbloekdhafoniaa
open Go.RowKit

/-- A slice of one's own that reads as numbers. -/
def IntsPost (L : List Int) (w : World) (e : Ending) (w' : World) : Prop := ∃ v, e = .returned v ∧ w'.ownsRow w.heap.size 3 1 v L.length (L.map (Value.int .i64)) ∧ Below w.heap.size w w'

set_option maxRecDepth 100000 in
set_option maxHeartbeats 4000000 in
theorem refRows_any (n : Nat) (hn : n ≤ 60) (k a m : Int) (hk : 0 ≤ k ∧ k ≤ 2) (ha : 0 ≤ a ∧ a ≤ 60) (hm : 1 ≤ m ∧ m ≤ 60) (w : World) :
    Calls Try.prog 17 #[.int .i64 n, .agg #[.int .i64 k, .int .i64 a, .int .i64 m]] w (IntsPost (rk n k a m (n + 1)) w) := by
  obtain ⟨i0, hi, hz0, hz1, hz2⟩ := info_parts Try.infoInt
  obtain ⟨mm, rfl⟩ := Int.eq_ofNat_of_zero_le (show 0 ≤ m by omega)
  have hmm : mm ≤ 60 := by omega
  have hnn : (n : Int) ≤ 60 := by omega
  have HLE := Lib.hid (rk_le n k a mm (by omega))
  unfold IntsPost
  go_enter Try.func17, Try.ntmps17
  go_wp2
  have HB1 := Lib.hid (belA (Below.refl w.heap.size w) (.cells #[.int .i64 k, .int .i64 a, .int .i64 mm] 25))
  have HS1 := Lib.hid (SB.new w k a mm)
  generalize w.alloc (.cells #[.int .i64 k, .int .i64 a, .int .i64 mm] 25) = w1 at *
  have hG := HS1.out.lt
  go_loopw [5, 6] (fun v i wr => ∃ (j : Nat) (vo : Value), vo = v ∧ j ≤ n + 1 ∧ i = .int .i64 j ∧ Hid (wr.ownsRow w1.heap.size 3 1 vo (rk n k a mm j).length ((rk n k a mm j).map (Value.int .i64))) ∧ Hid (Below w1.heap.size w1 wr)) (fun _ i _ => n + 1 - (intOf i).toNat)
  case atStart => exact ⟨0, _, rfl, Nat.zero_le _, rfl, Lib.hid (World.ownsRow_nil _ _ _ _), Lib.hid (Below.refl _ _)⟩
  case round =>
    obtain ⟨j, vo, rfl, hj, rfl, HO, HB⟩ := hrel
    by_cases hlt : j ≤ n
    · have hji : (j : Int) ≤ n := by omega
      have hS := HS1.out.past HB.out
      have c0 := hS.c0
      have c1 := hS.c1
      have c2 := hS.c2
      have hsz := HB.out.size
      have hgl := hS.lt
      have HL := HLE.out j
      have hL0 : (rk n k a mm j).length ≤ 3800 := by omega
      clear HL
      obtain ⟨L, hLd⟩ : ∃ L, rk n k a mm j = L := ⟨_, rfl⟩
      rw [hLd] at HO hL0
      have HLD := Lib.hid hLd
      clear hLd hS
      obtain ⟨ins, hins⟩ : ∃ b, insB k a j = b := ⟨_, rfl⟩
      have HIN := Lib.hid hins
      clear hins
      go_upto_region 5 with fail
      go_cut [22] (fun s22 wx => s22 = .bool ins ∧ wr = wx)
      case first =>
        have hi := HIN.out
        by_cases hk0 : k = 0
        · subst hk0
          have e : ((j : Int) == a) = ins := by rw [← hi]; by_cases h : (j : Int) = a <;> simp [insB, h]
          clear hi HIN
          subst e
          go_wp2
          go_meet
          exact ⟨by simp_all, rfl⟩
        · have hkb : (k == 0) = false := by simpa using hk0
          have e : false = ins := by rw [← hi]; simp [insB, hk0]
          subst e
          clear hi HIN hk0
          go_wp2
          go_meet
          exact ⟨rfl, rfl⟩
      case rest =>
      obtain ⟨rfl, rfl⟩ := hcut
      go_upto_if 22 with fail
      go_cut [5] (fun s5 wx => ∃ vo, vo = s5 ∧ Hid (wx.ownsRow w1.heap.size 3 1 vo (L ++ insL k a mm j).length ((L ++ insL k a mm j).map (Value.int .i64))) ∧ Hid (Below w1.heap.size w1 wx))
      case first =>
        cases ins with
        | false =>
          have HIL := Lib.hid (ins_no (m := mm) HIN.out)
          go_wp2
          go_meet
          exact ⟨_, rfl, by rw [HIL.out, List.append_nil]; exact HO, HB⟩
        | true =>
          have HIL := Lib.hid (ins_yes (m := mm) HIN.out)
          clear c0 c1 c2
          go_wp2
          go_loopw [5, 7] (fun v q wy => ∃ (t : Nat) (vo : Value), vo = v ∧ t ≤ mm ∧ q = .int .i64 t ∧ Hid (wy.ownsRow w1.heap.size 3 1 vo (L ++ List.replicate t (-1)).length ((L ++ List.replicate t (-1)).map (Value.int .i64))) ∧ Hid (Below w1.heap.size w1 wy)) (fun _ q _ => mm - (intOf q).toNat)
          case atStart => exact ⟨0, _, rfl, Nat.zero_le _, rfl, by rw [List.replicate_zero, List.append_nil]; exact HO, HB⟩
          case round =>
            obtain ⟨t, vo, rfl, ht, rfl, HO2, HB2⟩ := hrel
            have hS2 := HS1.out.past HB2.out
            have c2 := hS2.c2
            have hgl2 := hS2.lt
            have hsz2 := HB2.out.size
            clear hS2 HO HB
            by_cases htl : t < mm
            · have hti : (t : Int) < mm := by omega
              have HRS : Hid (L ++ List.replicate (t + 1) (-1) = (L ++ List.replicate t (-1)) ++ [-1]) := Lib.hid (by rw [List.append_assoc, List.replicate_succ'])
              have hlt2 : (L ++ List.replicate t (-1 : Int)).length ≤ 3900 := by rw [List.length_append, List.length_replicate]; omega
              generalize L ++ List.replicate t (-1 : Int) = L2 at *
              go_wp2_with (at_builtin; go_must (refine wpList_append_own _ rfl _ _ 31 rfl w1.heap.size 3 i0 (.int .i64 0) 1 8 Try.underlying31 hi hz0 hz1 hz2 rfl (by decide) vo L2.length (L2.map (Value.int .i64)) rfl (HO2.out.alloc _) ⟨wr.heap.size, 0, none⟩ 1 1 [.int .i64 (-1)] rfl rfl (news1 wr _ _) (by simp [Value.oneCell']) (by unfold maxLen; omega) (by omega) (by simp; omega) ?_; intro v2 w5 hown2 hgrow2 _; have HO3 := Lib.hid hown2; have HB3 := Lib.hid ((HB2.out.alloc hsz2 _).grown hgrow2 (by simp; omega) (fun j e => (HO2.out.lt _ e).1)); clear hown2 hgrow2))
              go_roundw
              case rel => exact ⟨t + 1, v2, rfl, htl, by go_num, by rw [HRS.out, List.map_append, List.length_append]; exact HO3, HB3⟩
              case measure => simp [intOf]; omega
            · obtain rfl : t = mm := by omega
              go_wp2
              go_meet
              exact ⟨_, rfl, by rw [HIL.out, Int.toNat_natCast]; exact HO2, HB2⟩
      case rest =>
      obtain ⟨v1, rfl, HO1, HBc⟩ := hcut
      clear HO HB c0 c1 c2 hsz hgl HIN
      have hS := HS1.out.past HBc.out
      have c0 := hS.c0
      have c1 := hS.c1
      have c2 := hS.c2
      have hgl := hS.lt
      have hszc := HBc.out.size
      clear hS
      have hL1 : (L ++ insL k a mm j).length ≤ 3900 := by
        have := insL_le k a mm j (by omega)
        rw [List.length_append]
        omega
      have HRY : Hid (putB n k a mm j = true → rk n k a mm (j + 1) = (L ++ insL k a mm j) ++ [(j : Int)]) := Lib.hid fun h => by rw [rk_yes h, HLD.out]
      have HRN : Hid (putB n k a mm j = false → rk n k a mm (j + 1) = L ++ insL k a mm j) := Lib.hid fun h => by rw [rk_no h, HLD.out]
      clear HLD HLE
      generalize L ++ insL k a mm j = L1 at *
      obtain ⟨z, hz⟩ : ∃ z, begZ k a = z := ⟨_, rfl⟩
      have hzb := begZ_t (k := k) (a := a) ⟨by omega, by omega⟩
      rw [hz] at hzb
      obtain ⟨hz00, hz01⟩ : 0 ≤ z ∧ z ≤ 60 := by rw [← hz]; unfold begZ; split <;> omega
      have HZ := Lib.hid hz
      clear hz hzb
      go_upto_if 36 with fail
      go_cut [8] (fun s8 wx => s8 = .int .i64 z ∧ wc = wx)
      case first =>
        by_cases hk2 : k = 2
        · subst hk2
          have e : (0 : Int) = z := HZ.out
          subst e
          go_wp2
          go_meet
          exact ⟨rfl, rfl⟩
        · have hkb : (k == 2) = false := by simpa using hk2
          have e := HZ.out
          rw [show begZ k a = a from if_neg hk2] at e
          subst e
          clear hk2
          go_wp2
          go_meet
          exact ⟨rfl, rfl⟩
      case rest =>
      obtain ⟨rfl, rfl⟩ := hcut
      obtain ⟨pb, hpb⟩ : ∃ b, putB n k a mm j = b := ⟨_, rfl⟩
      rw [hpb] at HRY HRN
      have HPD : Hid (pb = (decide (j < n) && (decide (k = 0) || decide ((j : Int) < z) || decide (z + mm ≤ j)))) := Lib.hid (by rw [← hpb, putB, HZ.out])
      clear hpb HZ
      have hwz : IntKind.i64.wrap (z + mm) = z + mm := by rw [IntKind.wrap_i64]; omega
      go_upto_region 13 with fail
      go_cut [57] (fun s57 wx => s57 = .bool pb ∧ wc = wx)
      case first =>
        have hp := HPD.out
        clear HPD HRY HRN
        by_cases hjn : j < n
        · have hd1 : decide (j < n) = true := decide_eq_true hjn
          by_cases hk0 : k = 0
          · subst hk0
            have e : true = pb := by rw [hp, hd1]; rfl
            subst e
            clear hp hjn
            go_wp2
            go_meet
            exact ⟨rfl, rfl⟩
          · have hkb : (k == 0) = false := by simpa using hk0
            by_cases h1 : (j : Int) < z
            · have e : true = pb := by rw [hp, hd1, decide_eq_true h1]; simp
              subst e
              have hd2 : decide ((j : Int) < z) = true := decide_eq_true h1
              clear hp hjn hk0 h1
              go_wp2
              go_meet
              exact ⟨rfl, rfl⟩
            · have hd2 : decide ((j : Int) < z) = false := decide_eq_false h1
              have e : decide (z + mm ≤ (j : Int)) = pb := by rw [hp, hd1, hd2, decide_eq_false hk0]; simp
              subst e
              clear hp hjn hk0 h1
              go_wp2
              go_meet
              exact ⟨by simp_all, rfl⟩
        · have hd1 : decide (j < n) = false := decide_eq_false hjn
          have e : false = pb := by rw [hp, hd1]; rfl
          subst e
          clear hp hjn
          go_wp2
          go_meet
          exact ⟨rfl, rfl⟩
      case rest =>
      obtain ⟨rfl, rfl⟩ := hcut
      clear HPD c0 c1 c2 hgl
      cases pb with
      | true =>
        have HR := Lib.hid (HRY.out rfl)
        clear HRY HRN
        go_wp2_with (at_builtin; go_must (refine wpList_append_own _ rfl _ _ 31 rfl w1.heap.size 3 i0 (.int .i64 0) 1 8 Try.underlying31 hi hz0 hz1 hz2 rfl (by decide) v1 L1.length (L1.map (Value.int .i64)) rfl (HO1.out.alloc _) ⟨wc.heap.size, 0, none⟩ 1 1 [.int .i64 j] rfl rfl (news1 wc _ _) (by simp [Value.oneCell']) (by unfold maxLen; omega) (by omega) (by simp; omega) ?_; intro v2 w5 hown2 hgrow2 _; have HO3 := Lib.hid hown2; have HB3 := Lib.hid ((HBc.out.alloc hszc _).grown hgrow2 (by simp; omega) (fun j e => (HO1.out.lt _ e).1)); clear hown2 hgrow2))
        go_roundw
        case rel => exact ⟨j + 1, v2, rfl, by omega, by go_num, by rw [HR.out, List.map_append, List.length_append]; exact HO3, HB3⟩
        case measure => simp [intOf]; omega
      | false =>
        have HR := Lib.hid (HRN.out rfl)
        clear HRY HRN
        go_wp2
        go_roundw
        case rel => exact ⟨j + 1, v1, rfl, by omega, by go_num, by rw [HR.out]; exact HO1, HBc⟩
        case measure => simp [intOf]; omega
    · obtain rfl : j = n + 1 := by omega
      have hd : decide (((n + 1 : Nat) : Int) ≤ n) = false := decide_eq_false (by omega)
      go_wp2
      go_ret
      exact ⟨_, rfl, own_mono HO.out (by omega), bel0 HB1.out HB.out⟩
end Go.Proofs.Ytbloekdhafoniaa
