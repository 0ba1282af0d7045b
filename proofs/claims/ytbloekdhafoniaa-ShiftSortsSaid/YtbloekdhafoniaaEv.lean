/- The law ShiftSorts. -/
import Derived.Test.YtbloekdhafoniaaFf
import Derived.BigQuiet
namespace Go.Proofs.Ytbloekdhafoniaa
open Go.RowKit Go.Sort

set_option maxRecDepth 100000 in
set_option maxHeartbeats 8000000 in
theorem shiftSorts_law (A : Option Addr) (l : List (Int × Int)) (n cp : Nat) (hn : n = l.length) (w : World) (hR : RPl w w.heap.size A l) :
    Calls Try.prog 9 #[.slice A n cp] w fun e w' => e = .returned (.bool true) ∧ Go.RowKit.Below w.heap.size w w' := by
  by_cases h80 : (80 : Int) < n
  · clear hR hn
    go_enter Try.func9, Try.ntmps9
    go_wp2_with (go_at_call 16; (with_reducible refine (awake_any _).mono ?_); rintro e w0 ⟨rfl, hb0⟩; have HB0 := Lib.hid hb0; clear hb0)
    go_ret
    exact ⟨rfl, HB0.out⟩
  · have hn80 : (n : Int) ≤ 80 := by omega
    have hdn : decide (80 < (n : Int)) = false := decide_eq_false h80
    have HSO := Lib.hid (sort_any A l n cp hn (by omega) w hR)
    have hsl : (srt l).length = n := by rw [srt_len, hn]
    have HNX : Hid (∀ i, i + 1 < n → lessB (At (srt l) (i + 1)).1 (At (srt l) (i + 1)).2 (At (srt l) i).1 (At (srt l) i).2 = false) := Lib.hid fun i hi => srt_next l i (by omega)
    have HCN : Hid (∀ e, cn (srt l) e n = cn l e n) := Lib.hid fun e => by rw [hn]; exact cn_all l e
    have HR := Lib.hid hR
    have HSL := Lib.hid hsl
    have HN := Lib.hid hn
    clear hR hsl hn h80
    generalize srt l = s at *
    go_enter Try.func9, Try.ntmps9
    go_wp2_with (go_at_call 23; (with_reducible refine (HSO.out).mono ?_); rintro e w1 ⟨A1, c1, rfl, hb1, hr1⟩; have HB1 := Lib.hid hb1; have HR1 := Lib.hid hr1; clear hb1 hr1)
    go_loopw [4] (fun q wr => ∃ i : Nat, q = .int .i64 i ∧ i ≤ n ∧ Hid (Go.RowKit.Below w1.heap.size w1 wr)) (fun q _ => n - (intOf q).toNat)
    case atStart => exact ⟨0, rfl, Nat.zero_le _, Lib.hid (Go.RowKit.Below.refl _ _)⟩
    case round =>
      obtain ⟨i, rfl, hi, HB⟩ := hrel
      by_cases hlt : i < n
      · have hlti : (i : Int) < n := by omega
        obtain ⟨b, off, rfl, hG⟩ := HR1.out.at (fun e => by have := HSL.out; rw [e] at this; simp at this; omega)
        obtain ⟨bl, ofl, rfl, hL⟩ := HR.out.at (fun e => by have := HN.out; rw [e] at this; simp at this; omega)
        have HG : Hid (∀ W, Go.RowKit.Below w1.heap.size w1 W → b < W.heap.size ∧ ∀ k, k < n → W.cell? ⟨b, off + k * 2, none⟩ = some (.int .i64 (At s k).1) ∧ W.cell? ⟨b, off + k * 2 + 1, none⟩ = some (.int .i64 (At s k).2)) := Lib.hid fun W hW => ⟨(hG W hW).1, fun k hk => (hG W hW).2 k (by rw [HSL.out]; exact hk)⟩
        have HL : Hid (∀ W, Go.RowKit.Below w1.heap.size w1 W → bl < W.heap.size ∧ ∀ k, k < n → W.cell? ⟨bl, ofl + k * 2, none⟩ = some (.int .i64 (At l k).1) ∧ W.cell? ⟨bl, ofl + k * 2 + 1, none⟩ = some (.int .i64 (At l k).2)) := Lib.hid fun W hW => ⟨(hL W (bel0 HB1.out hW)).1, fun k hk => (hL W (bel0 HB1.out hW)).2 k (by rw [← HN.out]; exact hk)⟩
        clear hG hL HSO
        obtain ⟨e, he⟩ : ∃ e, At s i = e := ⟨_, rfl⟩
        have HE := Lib.hid he
        have hg := guardPos
        -- REGION 9
        -- REGION 9
        -- REGION 9
        -- REGION 9
        obtain ⟨G0, GA⟩ := HG.out _ HB.out
        obtain ⟨g0, g1⟩ := GA i hlt
        rw [he] at g0 g1
        by_cases hi0 : 0 < i
        · obtain ⟨j, hij⟩ : ∃ j, i = j + 1 := ⟨i - 1, by omega⟩
          have hd : decide (0 < i) = true := decide_eq_true hi0
          have hwj : IntKind.i64.wrap ((i : Int) - 1) = (j : Int) := by rw [IntKind.wrap_i64]; omega
          have hjn : (j : Int) < n := by omega
          obtain ⟨p0, p1⟩ := GA j (by omega)
          have HLS := Lib.hid (refLess_as e.1 e.2 (At s j).1 (At s j).2 false (by rw [← he, hij]; exact HNX.out j (by omega)))
          generalize At s j = pe at *
          clear GA he hij
          go_wp2
          go_still_tail 12, (by kernel_rfl)
          change wpList _ _ _ _ _ wr.drew
          have HBd : Hid (Go.RowKit.Below w1.heap.size w1 wr.drew) := Lib.hid HB.out.drew
          clear g0 g1 p0 p1 G0 hd HB
          generalize wr.drew = wd at *
          go_wp2_with (go_at_call 19; (with_reducible refine (HLS.out _).mono ?_); rintro e8 wq ⟨rfl, hbx⟩; have HBq := Lib.hid (bel0 HBd.out hbx); clear hbx)
          clear HLS HBd hwj hjn
          go_wp2
          go_loopw [5, 6] (fun zz q wy => ∃ (k : Nat) (z : Int), zz = .int .i64 z ∧ q = .int .i64 k ∧ k ≤ n ∧ -80 ≤ z ∧ z ≤ 80 ∧ Hid (z = (cn s e k : Int) - cn l e k) ∧ Hid (Go.RowKit.Below w1.heap.size w1 wy)) (fun _ q _ => n - (intOf q).toNat)
          case atStart => exact ⟨0, 0, rfl, rfl, Nat.zero_le _, by omega, by omega, Lib.hid (by simp [cn]), HBq⟩
          case round =>
            obtain ⟨k, z, rfl, rfl, hk, hz0, hz1, HZ, HY⟩ := hrel
            by_cases hlk : k < n
            · have hlki : (k : Int) < n := by omega
              obtain ⟨G0, GA⟩ := HG.out _ HY.out
              obtain ⟨L0, LA⟩ := HL.out _ HY.out
              obtain ⟨g0, g1⟩ := GA i hlt
              rw [HE.out] at g0 g1
              obtain ⟨x0, x1⟩ := GA k hlk
              obtain ⟨y0, y1⟩ := LA k hlk
              clear GA LA
              have hcs := cn_succ s e k (by have := HSL.out; omega)
              have hcl := cn_succ l e k (by have := HN.out; omega)
              have hb1 := cn_le s e (k + 1)
              have hb2 := cn_le l e (k + 1)
              have hzz := HZ.out
              obtain ⟨zn, hzn⟩ : ∃ zn : Int, (cn s e (k + 1) : Int) - cn l e (k + 1) = zn := ⟨_, rfl⟩
              have hzn0 : -80 ≤ zn := by omega
              have hzn1 : zn ≤ 80 := by omega
              have HZN : Hid (zn = (cn s e (k + 1) : Int) - cn l e (k + 1)) := Lib.hid hzn.symm
              clear hb1 hb2
              cases hh1 : hit (At s k) e <;> cases hh2 : hit (At l k) e
              all_goals
                rw [hh1] at hcs
                rw [hh2] at hcl
                have hrel2 : zn = z + (cn s e (k + 1) - cn s e k : Int) - (cn l e (k + 1) - cn l e k : Int) := by omega
                have E1 := fun W => eq_hit W (At s k) e _ hh1
                have E2 := fun W => eq_hit W (At l k) e _ hh2
                have HD1 := Lib.hid hcs
                have HD2 := Lib.hid hcl
                have HR2 := Lib.hid hrel2
                clear hh1 hh2 hcs hcl hrel2 hzz hzn HZ HE HNX HCN
                generalize At s k = xk at *
                generalize At l k = yk at *
                go_wp2
                go_quiet (fail)
                have d0 : (wr.drewN nq).cell? ⟨b, off + i * 2, none⟩ = some (.int .i64 e.1) := g0
                have d1 : (wr.drewN nq).cell? ⟨b, off + i * 2 + 1, none⟩ = some (.int .i64 e.2) := g1
                have d2 : (wr.drewN nq).cell? ⟨bl, ofl + k * 2, none⟩ = some (.int .i64 yk.1) := y0
                have d3 : (wr.drewN nq).cell? ⟨bl, ofl + k * 2 + 1, none⟩ = some (.int .i64 yk.2) := y1
                have D0 : b < (wr.drewN nq).heap.size := G0
                have D1 : bl < (wr.drewN nq).heap.size := L0
                have HY1 : Hid (Go.RowKit.Below w1.heap.size w1 (wr.drewN nq)) := Lib.hid (bel0 HY.out (belN' wr nq))
                clear g0 g1 x0 x1 y0 y1 G0 L0 HY E1
                generalize wr.drewN nq = wz at *
                clear nq
                go_wp2
                go_quiet (fail)
                have HY2 : Hid (Go.RowKit.Below w1.heap.size w1 (wz.drewN nq)) := Lib.hid (bel0 HY1.out (belN' wz nq))
                clear d0 d1 d2 d3 D0 D1 HY1 E2
                generalize wz.drewN nq = wt at *
                go_wp2
                go_roundw
                case rel => exact ⟨k + 1, zn, by have := HR2.out; have := HD1.out; have := HD2.out; simp at *; go_num, by go_num, hlk, hzn0, hzn1, HZN, HY2⟩
                case measure => simp [intOf]; omega
            · obtain rfl : k = n := by omega
              have hzz : z = 0 := by have := HZ.out; rw [HCN.out e] at this; omega
              have hdz : (z != 0) = false := by rw [hzz]; rfl
              clear HZ HNX HCN
              go_wp2
              go_roundw
              case rel => exact ⟨i + 1, by go_num, hlt, HY⟩
              case measure => simp [intOf]; omega
        · have hd : decide (0 < i) = false := decide_eq_false hi0
          clear GA he
          go_wp2
          refine wp_region_quiet_lit (by kernel_rfl) (by kernel_rfl) ?_
          repeat (any_goals (first | go_big_quiet_step (fail) | quiet_step (fail)))
          refine wpQuiet_nil ?_
          intro _ hw'
          obtain ⟨nq, hw''⟩ := hw'
          subst hw''
          have HBq : Hid (Go.RowKit.Below w1.heap.size w1 (wr.drewN nq)) := Lib.hid (bel0 HB.out (belN' wr nq))
          clear g0 g1 G0 hd HB
          generalize wr.drewN nq = wq at *
          go_wp2
          go_loopw [5, 6] (fun zz q wy => ∃ (k : Nat) (z : Int), zz = .int .i64 z ∧ q = .int .i64 k ∧ k ≤ n ∧ -80 ≤ z ∧ z ≤ 80 ∧ Hid (z = (cn s e k : Int) - cn l e k) ∧ Hid (Go.RowKit.Below w1.heap.size w1 wy)) (fun _ q _ => n - (intOf q).toNat)
          case atStart => exact ⟨0, 0, rfl, rfl, Nat.zero_le _, by omega, by omega, Lib.hid (by simp [cn]), HBq⟩
          case round =>
            obtain ⟨k, z, rfl, rfl, hk, hz0, hz1, HZ, HY⟩ := hrel
            by_cases hlk : k < n
            · have hlki : (k : Int) < n := by omega
              obtain ⟨G0, GA⟩ := HG.out _ HY.out
              obtain ⟨L0, LA⟩ := HL.out _ HY.out
              obtain ⟨g0, g1⟩ := GA i hlt
              rw [HE.out] at g0 g1
              obtain ⟨x0, x1⟩ := GA k hlk
              obtain ⟨y0, y1⟩ := LA k hlk
              clear GA LA
              have hcs := cn_succ s e k (by have := HSL.out; omega)
              have hcl := cn_succ l e k (by have := HN.out; omega)
              have hb1 := cn_le s e (k + 1)
              have hb2 := cn_le l e (k + 1)
              have hzz := HZ.out
              obtain ⟨zn, hzn⟩ : ∃ zn : Int, (cn s e (k + 1) : Int) - cn l e (k + 1) = zn := ⟨_, rfl⟩
              have hzn0 : -80 ≤ zn := by omega
              have hzn1 : zn ≤ 80 := by omega
              have HZN : Hid (zn = (cn s e (k + 1) : Int) - cn l e (k + 1)) := Lib.hid hzn.symm
              clear hb1 hb2
              cases hh1 : hit (At s k) e <;> cases hh2 : hit (At l k) e
              all_goals
                rw [hh1] at hcs
                rw [hh2] at hcl
                have hrel2 : zn = z + (cn s e (k + 1) - cn s e k : Int) - (cn l e (k + 1) - cn l e k : Int) := by omega
                have E1 := fun W => eq_hit W (At s k) e _ hh1
                have E2 := fun W => eq_hit W (At l k) e _ hh2
                have HD1 := Lib.hid hcs
                have HD2 := Lib.hid hcl
                have HR2 := Lib.hid hrel2
                clear hh1 hh2 hcs hcl hrel2 hzz hzn HZ HE HNX HCN
                generalize At s k = xk at *
                generalize At l k = yk at *
                go_wp2
                go_quiet (fail)
                have d0 : (wr.drewN nq).cell? ⟨b, off + i * 2, none⟩ = some (.int .i64 e.1) := g0
                have d1 : (wr.drewN nq).cell? ⟨b, off + i * 2 + 1, none⟩ = some (.int .i64 e.2) := g1
                have d2 : (wr.drewN nq).cell? ⟨bl, ofl + k * 2, none⟩ = some (.int .i64 yk.1) := y0
                have d3 : (wr.drewN nq).cell? ⟨bl, ofl + k * 2 + 1, none⟩ = some (.int .i64 yk.2) := y1
                have D0 : b < (wr.drewN nq).heap.size := G0
                have D1 : bl < (wr.drewN nq).heap.size := L0
                have HY1 : Hid (Go.RowKit.Below w1.heap.size w1 (wr.drewN nq)) := Lib.hid (bel0 HY.out (belN' wr nq))
                clear g0 g1 x0 x1 y0 y1 G0 L0 HY E1
                generalize wr.drewN nq = wz at *
                clear nq
                go_wp2
                go_quiet (fail)
                have HY2 : Hid (Go.RowKit.Below w1.heap.size w1 (wz.drewN nq)) := Lib.hid (bel0 HY1.out (belN' wz nq))
                clear d0 d1 d2 d3 D0 D1 HY1 E2
                generalize wz.drewN nq = wt at *
                go_wp2
                go_roundw
                case rel => exact ⟨k + 1, zn, by have := HR2.out; have := HD1.out; have := HD2.out; simp at *; go_num, by go_num, hlk, hzn0, hzn1, HZN, HY2⟩
                case measure => simp [intOf]; omega
            · obtain rfl : k = n := by omega
              have hzz : z = 0 := by have := HZ.out; rw [HCN.out e] at this; omega
              have hdz : (z != 0) = false := by rw [hzz]; rfl
              clear HZ HNX HCN
              go_wp2
              go_roundw
              case rel => exact ⟨i + 1, by go_num, hlt, HY⟩
              case measure => simp [intOf]; omega
      · clear HNX HCN HSO
        go_wp2_with (go_at_call 16; (with_reducible refine (awake_any _).mono ?_); rintro e w0 ⟨rfl, hb0⟩; have HB0 := Lib.hid (bel0 (bel0 HB1.out HB.out) hb0); clear hb0)
        go_ret
        exact ⟨rfl, HB0.out⟩
end Go.Proofs.Ytbloekdhafoniaa
