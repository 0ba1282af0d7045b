/- Stops of the tabulator: from stop to stop: plain facts; Next, Ahead. -/
import Derived.Test.YtabipecpkbjdkaaTd
import Derived.Deep.DeepCutAuto
namespace Go.Proofs.Ytabipecpkbjdkaa
open Go.RowKit

/-- From the distance d to the edge on: the distance of the next stop. -/
def nd (st : Nat → Bool) : Nat → Nat
  | 0 => 0
  | d + 1 => if st d then d else nd st d
def itN (st : Nat → Bool) : Nat → Nat → Nat
  | 0, d => d
  | m + 1, d => itN st m (nd st d)
theorem it_zero (st : Nat → Bool) : ∀ m, itN st m 0 = 0
  | 0 => rfl
  | m + 1 => it_zero st m
theorem it_yes (st : Nat → Bool) (m d : Nat) (h : st d = true) : itN st (m + 1) (d + 1) = itN st m d := by
  show itN st m (nd st (d + 1)) = _
  rw [show nd st (d + 1) = d from if_pos h]
theorem it_no (st : Nat → Bool) (m d : Nat) (h : st d = false) (hm : 0 < m) : itN st m (d + 1) = itN st m d := by
  obtain ⟨k, rfl⟩ : ∃ k, m = k + 1 := ⟨m - 1, by omega⟩
  show itN st k (nd st (d + 1)) = itN st k (nd st d)
  rw [show nd st (d + 1) = nd st d from if_neg (by rw [h]; decide)]
theorem nd_lt (st : Nat → Bool) : ∀ d, nd st (d + 1) ≤ d
  | 0 => by
    show (if st 0 then 0 else 0) ≤ 0
    split <;> omega
  | d + 1 => by
    show (if st (d + 1) then d + 1 else nd st (d + 1)) ≤ d + 1
    split
    · omega
    · have := nd_lt st d
      omega
theorem nd_le (st : Nat → Bool) (d : Nat) : nd st d ≤ d := by
  cases d with
  | zero => exact Nat.le_refl _
  | succ d => exact Nat.le_succ_of_le (nd_lt st d)
theorem it_le (st : Nat → Bool) : ∀ m d, itN st m d ≤ d
  | 0, _ => Nat.le_refl _
  | m + 1, d => Nat.le_trans (it_le st m (nd st d)) (nd_le st d)
theorem it_fix (st : Nat → Bool) : ∀ m d, d ≤ m → itN st m d = 0
  | 0, d, h => by
    have : d = 0 := by omega
    subst this
    rfl
  | m + 1, 0, _ => it_zero st (m + 1)
  | m + 1, d + 1, h => it_fix st m _ (by have := nd_lt st d; omega)

def stU (l : List Bool) (d : Nat) : Bool := l[l.length - 1 - d]?.getD false
def stD (l : List Bool) (d : Nat) : Bool := l[d]?.getD false
def posU (l : List Bool) (m p : Nat) : Nat := l.length - 1 - itN (stU l) m (l.length - 1 - p)
def posD (l : List Bool) (m p : Nat) : Nat := itN (stD l) m p
theorem posU_0 (l : List Bool) (p : Nat) (h : p ≤ l.length - 1) : posU l 0 p = p := by
  show l.length - 1 - (l.length - 1 - p) = p
  omega
theorem posU_last (l : List Bool) (m : Nat) : posU l m (l.length - 1) = l.length - 1 := by
  unfold posU
  rw [Nat.sub_self, it_zero]
  omega
theorem posU_yes (l : List Bool) (m p : Nat) (h : p < l.length - 1) (hs : l[p + 1]?.getD false = true) : posU l (m + 1) p = posU l m (p + 1) := by
  unfold posU
  have e : l.length - 1 - p = (l.length - 1 - (p + 1)) + 1 := by omega
  rw [e, it_yes]
  unfold stU
  rw [show l.length - 1 - (l.length - 1 - (p + 1)) = p + 1 by omega]
  exact hs
theorem posU_no (l : List Bool) (m p : Nat) (h : p < l.length - 1) (hs : l[p + 1]?.getD false = false) (hm : 0 < m) : posU l m p = posU l m (p + 1) := by
  unfold posU
  have e : l.length - 1 - p = (l.length - 1 - (p + 1)) + 1 := by omega
  rw [e, it_no]
  · unfold stU
    rw [show l.length - 1 - (l.length - 1 - (p + 1)) = p + 1 by omega]
    exact hs
  · exact hm
theorem posU_le (l : List Bool) (m p : Nat) : posU l m p ≤ l.length - 1 := Nat.sub_le _ _
theorem posD_0 (l : List Bool) (p : Nat) : posD l 0 p = p := rfl
theorem posD_last (l : List Bool) (m : Nat) : posD l m 0 = 0 := it_zero _ m
theorem posD_yes (l : List Bool) (m p : Nat) (hs : l[p]?.getD false = true) : posD l (m + 1) (p + 1) = posD l m p := it_yes _ m p hs
theorem posD_no (l : List Bool) (m p : Nat) (hs : l[p]?.getD false = false) (hm : 0 < m) : posD l m (p + 1) = posD l m p := it_no _ m p hs hm
theorem posD_le (l : List Bool) (m p : Nat) : posD l m p ≤ p := it_le _ m p

def clampZ (n : Nat) (x : Int) : Nat := (max (min x ((n : Int) - 1)) 0).toNat
theorem clampZ_of (n : Nat) (x : Int) : max (min x ((n : Int) - 1)) 0 = (clampZ n x : Int) := by
  unfold clampZ
  omega
theorem clampZ_le (n : Nat) (x : Int) (h : 2 ≤ n) : clampZ n x ≤ n - 1 := by
  unfold clampZ
  omega

theorem next1_any (x last : Int) (c : Nat) (w : World) (hc : w.cell? ⟨c, 0, none⟩ = some (.int .i64 last)) (h0 : 0 ≤ x) (h1 : x ≤ 2000) :
    Calls Try.prog 27 #[.int .i64 x, .pointer (some ⟨c, 0, none⟩)] w fun e w' => e = .returned (.tuple #[.int .i64 (x + 1), .bool (decide (x < last))]) ∧ Below w.heap.size w w' := by
  have hw : IntKind.i64.wrap (x + 1) = x + 1 := IntWalk.i64_in _ (by omega)
  go_enter Try.func27, Try.ntmps27
  go_wp2
  go_quiet (fail)
  go_wp2
  go_ret2
  exact ⟨rfl, ⟨rfl, rfl, rfl, Nat.le_refl _, fun _ _ => rfl⟩⟩
theorem ahead1_any (x : Int) (w : World) (h0 : 0 ≤ x) (h1 : x ≤ 2000) :
    Calls Try.prog 28 #[.int .i64 x] w fun e w' => e = .returned (.tuple #[.int .i64 (x - 1), .bool (decide (0 < x))]) ∧ Below w.heap.size w w' := by
  go_enter Try.func28, Try.ntmps28
  go_wp2
  go_ret2
  exact ⟨rfl, Below.refl _ _⟩

set_option maxHeartbeats 1000000 in
theorem walkU_any (s b c : Nat) (l : List Bool) (x m : Int) (w : World) (h : SS w s b l) (hm : m ≤ 9223372036854775807) (hc : w.cell? ⟨c, 0, none⟩ = some (.int .i64 ((l.length : Int) - 1))) :
    Calls Try.prog 26 #[.pointer (some ⟨s, 0, none⟩), .int .i64 x, .int .i64 m, .func (.func 27) #[] #[.pointer (some ⟨c, 0, none⟩)]] w fun e w' => e = .returned (.int .i64 (posU l m.toNat (clampZ l.length x))) ∧ Below w.heap.size w w' := by
  have hcl := clampZ_of l.length x
  have hp := clampZ_le l.length x h.lo
  have hcz : c < w.heap.size := block_lt_of_cell hc
  obtain ⟨p, hpe⟩ : ∃ p, clampZ l.length x = p := ⟨_, rfl⟩
  rw [hpe] at hcl hp ⊢
  clear hpe
  have HCL := Lib.hid hcl
  clear hcl
  have HC : Hid (Calls Try.prog 17 #[.pointer (some ⟨s, 0, none⟩)] w fun e w' => e = .returned (.int .i64 l.length) ∧ w = w') := Lib.hid (cols_any s b l w h)
  have HS := Lib.hid h
  have HCC := Lib.hid hc
  have hlo := h.lo
  have hhi := h.hi
  clear h hc
  go_enter Try.func26, Try.ntmps26
  go_upto_region 1 with fail
  go_cut [1] (fun s1 wx => s1 = .int .i64 p ∧ w = wx)
  case first =>
    go_wp2_with (go_at_call 17; (with_reducible refine HC.out.mono ?_); rintro e w' ⟨rfl, rfl⟩)
    all_goals
      go_meet
      exact ⟨by congr 1; have := HCL.out; omega, rfl⟩
  case rest =>
    obtain ⟨rfl, rfl⟩ := hcut
    go_wp2
    go_loopw [1, 2] (fun xs ms wr => ∃ (q : Nat) (mz : Int), xs = .int .i64 q ∧ ms = .int .i64 mz ∧ q ≤ l.length - 1 ∧ mz ≤ 9223372036854775807 ∧ Hid (posU l mz.toNat q = posU l m.toNat p) ∧ Hid (Below w.heap.size w wr)) (fun xs _ _ => l.length - (intOf xs).toNat)
    case atStart => exact ⟨p, m, rfl, rfl, hp, hm, Lib.hid rfl, Lib.hid (Below.refl _ _)⟩
    case round =>
      obtain ⟨q, mz, rfl, rfl, hq, hmz, HP, HB⟩ := hrel
      by_cases h0 : 0 < mz
      · have hcc := (HB.out.cell (p := ⟨c, 0, none⟩) hcz).trans HCC.out
        have HX : Hid (∀ W, Below wr.heap.size wr W → SS W s b l) := Lib.hid fun W hW => (HS.out.past HB.out).past hW
        have HN1 := Lib.hid (next1_any (q : Int) ((l.length : Int) - 1) c wr hcc (by omega) (by omega))
        clear hcc
        by_cases hlt : q < l.length - 1
        · have hli : decide ((q : Int) < (l.length : Int) - 1) = true := decide_eq_true (by omega)
          have hql : q + 1 < l.length := by omega
          have hqi : (q : Int) + 1 < (l.length : Int) := by omega
          have HL := Lib.hid (show q + 1 < l.length from hql)
          rw [hli] at HN1
          obtain ⟨v, hv⟩ : ∃ v, l[q + 1]?.getD false = v := ⟨_, rfl⟩
          have HV := Lib.hid hv
          clear hv
          cases v with
          | true =>
            have HQ : Hid (posU l (mz - 1).toNat (q + 1) = posU l m.toNat p) := Lib.hid (by
              rw [← HP.out, show mz.toNat = (mz - 1).toNat + 1 by omega]
              exact (posU_yes l _ q hlt HV.out).symm)
            go_wp2_with (go_at_call 27; (with_reducible refine HN1.out.mono ?_); rintro e w3 ⟨rfl, hb3⟩; have hc0 := (HX.out w3 hb3).c0; have hcx := (HX.out w3 hb3).cx (q + 1) HL.out; rw [HV.out] at hcx; have HB3 := Lib.hid (bel0 HB.out hb3); clear hb3)
            go_roundw
            case rel => exact ⟨q + 1, mz - 1, by go_num, rfl, by omega, by omega, HQ, HB3⟩
            case measure => simp [intOf]; omega
          | false =>
            have HQ : Hid (posU l mz.toNat (q + 1) = posU l m.toNat p) := Lib.hid (by
              rw [← HP.out]
              exact (posU_no l _ q hlt HV.out (by omega)).symm)
            go_wp2_with (go_at_call 27; (with_reducible refine HN1.out.mono ?_); rintro e w3 ⟨rfl, hb3⟩; have hc0 := (HX.out w3 hb3).c0; have hcx := (HX.out w3 hb3).cx (q + 1) HL.out; rw [HV.out] at hcx; have HB3 := Lib.hid (bel0 HB.out hb3); clear hb3)
            go_roundw
            case rel => exact ⟨q + 1, mz, by go_num, rfl, by omega, hmz, HQ, HB3⟩
            case measure => simp [intOf]; omega
        · obtain hqe : q = l.length - 1 := by omega
          have hli : decide ((q : Int) < (l.length : Int) - 1) = false := decide_eq_false (by omega)
          rw [hli] at HN1
          have HE : Hid (posU l m.toNat p = q) := Lib.hid (by rw [← HP.out, hqe, posU_last])
          clear hqe
          go_wp2_with (go_at_call 27; (with_reducible refine HN1.out.mono ?_); rintro e w3 ⟨rfl, hb3⟩; have HB3 := Lib.hid (bel0 HB.out hb3); clear hb3)
          go_ret
          exact ⟨by rw [HE.out]; rfl, HB3.out⟩
      · have HE : Hid (posU l m.toNat p = q) := Lib.hid (by rw [← HP.out, show mz.toNat = 0 by omega]; exact posU_0 l q hq)
        go_wp2
        go_ret
        exact ⟨by rw [HE.out]; rfl, HB.out⟩

end Go.Proofs.Ytabipecpkbjdkaa
