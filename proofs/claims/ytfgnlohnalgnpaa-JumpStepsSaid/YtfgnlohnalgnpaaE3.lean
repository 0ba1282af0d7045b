/- The law JumpSteps. -/
import Derived.Test.YtfgnlohnalgnpaaJ9
namespace Go.Proofs.Ytfgnlohnalgnpaa
open Go.RowKit

theorem nextQ (A : Option Addr) (l : List Int) (n c : Nat) (hn : n = l.length) (hl : n ≤ 1000000) (x : Int) (W : World) (h : RI W W.heap.size A l) :
    Calls Try.prog 13 #[.slice A n c, .int .i64 x] W fun e w' => e = .returned (.tuple #[.int .i64 (nextV x (uqI l)).1, .bool (nextV x (uqI l)).2]) ∧ W = w' := by
  rw [next_eq (uqI_mem l)]
  exact (refNext_any A l n c hn hl x W h).mono fun _ _ h => ⟨h.1, h.2.symm⟩
theorem aheadQ (A : Option Addr) (l : List Int) (n c : Nat) (hn : n = l.length) (hl : n ≤ 1000000) (x : Int) (W : World) (h : RI W W.heap.size A l) :
    Calls Try.prog 14 #[.slice A n c, .int .i64 x] W fun e w' => e = .returned (.tuple #[.int .i64 (aheadV x (uqI l)).1, .bool (aheadV x (uqI l)).2]) ∧ W = w' := by
  rw [ahead_eq (uqI_mem l)]
  exact (refAhead_any A l n c hn hl x W h).mono fun _ _ h => ⟨h.1, h.2.symm⟩
set_option maxRecDepth 100000 in
set_option maxHeartbeats 8000000 in
theorem jumpSteps_law (A : Option Addr) (l : List Int) (n c : Nat) (hn : n = l.length) (at_ nn : Int) (hnn : InB nn) (w : World) (h : RI w w.heap.size A l) :
    Calls Try.prog 4 #[.slice A n c, .int .i64 at_, .int .i64 nn] w fun e w' => e = .returned (.bool true) ∧ Below w.heap.size w w' := by
  have HAW := Lib.hid awake_any
  by_cases hl : n ≤ 60
  · have hli : ¬ (60 : Int) < n := by omega
    have HR := Lib.hid h
    have hul : (uqI l).length ≤ 60 := Nat.le_trans (uqI_len l) (by omega)
    have HN := Lib.hid (fun x W h => nextQ A l n c hn (by omega) x W h)
    have HA := Lib.hid (fun x W h => aheadQ A l n c hn (by omega) x W h)
    have HS := Lib.hid (fun W h => step_any A l n c hn (by omega) at_ nn hnn W h)
    have HU := Lib.hid (uqI_rise l)
    obtain ⟨h1, h2⟩ := hnn
    clear h hn
    generalize uqI l = U at *
    by_cases hp : 0 ≤ nn
    · -- steps on
      have HZ : Hid (stepV U at_ nn = advN U at_ (min nn.toNat 100)) := Lib.hid (step_up HU.out at_ nn _ (by omega) hp)
      obtain ⟨m, hm⟩ : ∃ m, m = min nn.toNat 100 := ⟨_, rfl⟩
      rw [← hm] at HZ
      have hnd : ¬ nn < 0 := by omega
      clear HA
      go_enter Try.func4, Try.ntmps4
      go_wp2_with (go_at_call 9; (with_reducible refine (HAW.out w).mono ?_); rintro e w1 ⟨rfl, hb⟩; have HR1 := Lib.hid (HR.out.past hb); have HB1 := Lib.hid hb; clear hb HR)
      go_loopg [7, 8, 9, 10] m (fun gh s7 s8 s9 s10 wx => ∃ k : Nat, k + gh = m ∧ s8 = .int .i64 k ∧ s7 = .int .i64 (advN U at_ k) ∧ w1 = wx)
      case atStart => exact ⟨0, by omega, rfl, rfl, rfl⟩
      case round =>
        obtain ⟨k, hk, rfl, rfl, rfl⟩ := hrel
        cases gk with
        | zero =>
          obtain rfl : m = k := by omega
          by_cases h100 : (m : Int) < 100
          · have hkc : ¬ (m : Int) < nn := by omega
            rw [← HZ.out]
            have hgo := Lib.hid (HS.out w1 HR1.out)
            generalize stepV U at_ nn = y at *
            have hz2 : ¬ (0 : Int) > nn := by omega
            go_wp2
            go_loopg [7, 11, 12, 13] 0 (fun gh s7 s11 s12 s13 wx => gh = 0 ∧ s11 = .int .i64 0 ∧ s7 = .int .i64 y ∧ w1 = wx)
            case atStart => exact ⟨rfl, rfl, rfl, rfl⟩
            case round =>
              obtain ⟨hg, rfl, rfl, rfl⟩ := hrel
              go_wp2_with (go_at_call 16; (with_reducible refine hgo.out.mono ?_); rintro e w2 ⟨rfl, hb⟩; have HB2 := Lib.hid (bel0 HB1.out hb); clear hb hgo)
              go_ret
              exact ⟨rfl, HB2.out⟩
          · rw [← HZ.out]
            have hgo := Lib.hid (HS.out w1 HR1.out)
            generalize stepV U at_ nn = y at *
            have hz2 : ¬ (0 : Int) > nn := by omega
            go_wp2
            go_loopg [7, 11, 12, 13] 0 (fun gh s7 s11 s12 s13 wx => gh = 0 ∧ s11 = .int .i64 0 ∧ s7 = .int .i64 y ∧ w1 = wx)
            case atStart => exact ⟨rfl, rfl, rfl, rfl⟩
            case round =>
              obtain ⟨hg, rfl, rfl, rfl⟩ := hrel
              go_wp2_with (go_at_call 16; (with_reducible refine hgo.out.mono ?_); rintro e w2 ⟨rfl, hb⟩; have HB2 := Lib.hid (bel0 HB1.out hb); clear hb hgo)
              go_ret
              exact ⟨rfl, HB2.out⟩
        | succ gh =>
          have hkm : k < m := by omega
          have h100 : (k : Int) < 100 := by omega
          have hkn : (k : Int) < nn := by omega
          have HN1 := Lib.hid (HN.out (advN U at_ k) w1 HR1.out)
          have HE : Hid (advN U at_ (k + 1) = if (nextV (advN U at_ k) U).2 then (nextV (advN U at_ k) U).1 else advN U at_ k) := Lib.hid rfl
          clear HN HS HZ
          generalize nextV (advN U at_ k) U = s at *
          obtain ⟨v, f⟩ := s
          generalize advN U at_ k = x at *
          cases f with
          | true =>
            have HE2 : Hid (advN U at_ (k + 1) = v) := Lib.hid HE.out
            go_wp2_with (go_at_call 13; (with_reducible refine HN1.out.mono ?_); rintro e w2 ⟨rfl, rfl⟩)
            go_roundg gh
            case measure => omega
            case rel => exact ⟨k + 1, by omega, by go_num, by rw [HE2.out], rfl⟩
          | false =>
            have HE2 : Hid (advN U at_ (k + 1) = x) := Lib.hid HE.out
            go_wp2_with (go_at_call 13; (with_reducible refine HN1.out.mono ?_); rintro e w2 ⟨rfl, rfl⟩)
            go_roundg gh
            case measure => omega
            case rel => exact ⟨k + 1, by omega, by go_num, by rw [HE2.out], rfl⟩
    · -- steps back
      have HZ : Hid (stepV U at_ nn = bckN U at_ (min (-nn).toNat 100)) := Lib.hid (step_back HU.out at_ nn _ (by omega) (by omega))
      obtain ⟨m, hm⟩ : ∃ m, m = min (-nn).toNat 100 := ⟨_, rfl⟩
      rw [← hm] at HZ
      have hnd : ¬ 0 < nn := by omega
      clear HN
      go_enter Try.func4, Try.ntmps4
      go_wp2_with (go_at_call 9; (with_reducible refine (HAW.out w).mono ?_); rintro e w1 ⟨rfl, hb⟩; have HR1 := Lib.hid (HR.out.past hb); have HB1 := Lib.hid hb; clear hb HR)
      go_loopg [7, 8, 9, 10] 0 (fun gh s7 s8 s9 s10 wx => gh = 0 ∧ s8 = .int .i64 0 ∧ s7 = .int .i64 at_ ∧ w1 = wx)
      case atStart => exact ⟨rfl, rfl, rfl, rfl⟩
      case round =>
        obtain ⟨hg, rfl, rfl, rfl⟩ := hrel
        go_wp2
        go_loopg [7, 11, 12, 13] m (fun gh s7 s11 s12 s13 wx => ∃ k : Nat, k + gh = m ∧ s11 = .int .i64 (-(k : Int)) ∧ s7 = .int .i64 (bckN U at_ k) ∧ w1 = wx)
        case atStart => exact ⟨0, by omega, rfl, rfl, rfl⟩
        case round =>
          obtain ⟨k, hk, rfl, rfl, rfl⟩ := hrel
          cases gk with
          | zero =>
            obtain rfl : m = k := by omega
            have hgo := Lib.hid (HS.out w1 HR1.out)
            rw [HZ.out] at hgo
            generalize bckN U at_ m = y at *
            by_cases h100 : -100 < -(m : Int)
            · have hkc : ¬ nn < -(m : Int) := by omega
              generalize -(m : Int) = z at *
              go_wp2_with (go_at_call 16; (with_reducible refine hgo.out.mono ?_); rintro e w2 ⟨rfl, hb⟩; have HB2 := Lib.hid (bel0 HB1.out hb); clear hb hgo)
              go_ret
              exact ⟨rfl, HB2.out⟩
            · generalize -(m : Int) = z at *
              go_wp2_with (go_at_call 16; (with_reducible refine hgo.out.mono ?_); rintro e w2 ⟨rfl, hb⟩; have HB2 := Lib.hid (bel0 HB1.out hb); clear hb hgo)
              go_ret
              exact ⟨rfl, HB2.out⟩
          | succ gh =>
            have h100 : -100 < -(k : Int) := by omega
            have hkn : nn < -(k : Int) := by omega
            have hw1 : IntKind.i64.wrap (-(k : Int) - 1) = -((k + 1 : Nat) : Int) := by rw [IntWalk.i64_in _ (by omega)]; omega
            have HN1 := Lib.hid (HA.out (bckN U at_ k) w1 HR1.out)
            have HE : Hid (bckN U at_ (k + 1) = if (aheadV (bckN U at_ k) U).2 then (aheadV (bckN U at_ k) U).1 else bckN U at_ k) := Lib.hid rfl
            have hk1 : Hid (k + 1 + gh = m) := Lib.hid (by omega)
            clear HA HS HZ hk
            generalize aheadV (bckN U at_ k) U = s at *
            obtain ⟨v, f⟩ := s
            generalize bckN U at_ k = x at *
            generalize -(k : Int) = z at *
            generalize hz' : -((k + 1 : Nat) : Int) = z' at *
            cases f with
            | true =>
              have HE2 : Hid (bckN U at_ (k + 1) = v) := Lib.hid HE.out
              have HZ' := Lib.hid hz'
              clear hz' HE
              go_wp2_with (go_at_call 14; (with_reducible refine HN1.out.mono ?_); rintro e w2 ⟨rfl, rfl⟩)
              go_roundg gh
              case measure => omega
              case rel => exact ⟨k + 1, hk1.out, by rw [HZ'.out], by rw [HE2.out], rfl⟩
            | false =>
              have HE2 : Hid (bckN U at_ (k + 1) = x) := Lib.hid HE.out
              have HZ' := Lib.hid hz'
              clear hz' HE
              go_wp2_with (go_at_call 14; (with_reducible refine HN1.out.mono ?_); rintro e w2 ⟨rfl, rfl⟩)
              go_roundg gh
              case measure => omega
              case rel => exact ⟨k + 1, hk1.out, by rw [HZ'.out], by rw [HE2.out], rfl⟩
  · have hli : (60 : Int) < n := by omega
    clear h hn hnn
    go_enter Try.func4, Try.ntmps4
    go_wp2_with (go_at_call 9; (with_reducible refine (HAW.out w).mono ?_); rintro e w1 ⟨rfl, hb⟩; have HB1 := Lib.hid hb; clear hb)
    go_ret
    exact ⟨rfl, HB1.out⟩

end Go.Proofs.Ytfgnlohnalgnpaa
