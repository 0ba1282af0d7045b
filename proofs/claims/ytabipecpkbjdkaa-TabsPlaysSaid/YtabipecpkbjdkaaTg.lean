/- The document's Go: from stop to stop. -/
import Derived.Test.YtabipecpkbjdkaaTf
namespace Go.Proofs.Ytabipecpkbjdkaa
open Go.RowKit

theorem it_snoc (st : Nat → Bool) : ∀ m d, itN st (m + 1) d = nd st (itN st m d)
  | 0, _ => rfl
  | m + 1, d => it_snoc st m (nd st d)
theorem posU_snoc (l : List Bool) (m p : Nat) : posU l (m + 1) p = posU l 1 (posU l m p) := by
  unfold posU
  have h := it_le (stU l) m (l.length - 1 - p)
  rw [it_snoc, show l.length - 1 - (l.length - 1 - itN (stU l) m (l.length - 1 - p)) = itN (stU l) m (l.length - 1 - p) by omega]
  rfl
theorem posD_snoc (l : List Bool) (m p : Nat) : posD l (m + 1) p = posD l 1 (posD l m p) := by
  unfold posD
  rw [it_snoc]
  rfl
theorem posU_fix (l : List Bool) (m p : Nat) (h : l.length ≤ m) : posU l m p = l.length - 1 := by
  unfold posU
  rw [it_fix _ _ _ (by omega)]
  rfl
theorem posD_fix (l : List Bool) (m p : Nat) (hp : p < l.length) (h : l.length ≤ m) : posD l m p = 0 := it_fix _ _ _ (by omega)
theorem posU_edge (l : List Bool) (y : Nat) (h1 : 1 ≤ y) (h2 : y = l.length - 1) : posU l 1 (y - 1) = y := by
  cases hv : l[y - 1 + 1]?.getD false with
  | true => rw [posU_yes l 0 (y - 1) (by omega) hv, posU_0 _ _ (by omega)]; omega
  | false => rw [posU_no l 1 (y - 1) (by omega) hv (by omega), show y - 1 + 1 = l.length - 1 by omega, posU_last]; omega
theorem posU_stop (l : List Bool) (y : Nat) (h1 : 1 ≤ y) (h2 : y ≤ l.length - 1) (hv : l[y]?.getD false = true) : posU l 1 (y - 1) = y := by
  rw [posU_yes l 0 (y - 1) (by omega) (by rw [show y - 1 + 1 = y by omega]; exact hv), posU_0 _ _ (by omega)]; omega
theorem posU_on (l : List Bool) (y : Nat) (h1 : 1 ≤ y) (h2 : y < l.length - 1) (hv : l[y]?.getD false = false) : posU l 1 (y - 1) = posU l 1 y := by
  rw [posU_no l 1 (y - 1) (by omega) (by rw [show y - 1 + 1 = y by omega]; exact hv) (by omega), show y - 1 + 1 = y by omega]
theorem posD_edge (l : List Bool) : posD l 1 1 = 0 := by
  cases hv : l[0]?.getD false with
  | true => rw [posD_yes l 0 0 hv]; rfl
  | false => rw [posD_no l 1 0 hv (by omega), posD_last]
theorem posD_stop (l : List Bool) (y : Nat) (hv : l[y]?.getD false = true) : posD l 1 (y + 1) = y := by
  rw [posD_yes l 0 y hv]; rfl
theorem posD_on (l : List Bool) (y : Nat) (hv : l[y]?.getD false = false) : posD l 1 (y + 1) = posD l 1 y := posD_no l 1 y hv (by omega)

set_option maxHeartbeats 2000000 in
theorem goU_any (A : Option Addr) (l : List Bool) (n cp : Nat) (x m : Int) (hn : n = l.length) (h2 : 2 ≤ n) (h3 : n ≤ 1000) (w : World) (hR : RB w w.heap.size A l) :
    Calls Try.prog 22 #[.slice A n cp, .int .i64 x, .int .i64 m, .int .i64 1] w fun e w' => e = .returned (.int .i64 (posU l m.toNat (clampZ n x))) ∧ w = w' := by
  have hcl := clampZ_of n x
  have hp := clampZ_le n x h2
  obtain ⟨p, hpe⟩ : ∃ p, clampZ n x = p := ⟨_, rfl⟩
  rw [hpe] at hcl hp ⊢
  clear hpe
  have HN := Lib.hid hn
  obtain ⟨b, rfl, hbl, hcx⟩ := hR (fun e => by rw [e] at hn; simp at hn; omega)
  have HX := Lib.hid hcx
  have hpi : (p : Int) ≤ (n : Int) - 1 := by omega
  have hcase : (decide (x < 0) = true ∧ p = 0) ∨ (x = (p : Int) ∧ decide ((p : Int) < 0) = false ∧ decide ((n : Int) - 1 < (p : Int)) = false) ∨ (decide (x < 0) = false ∧ decide ((n : Int) - 1 < x) = true ∧ (n : Int) - 1 = p) := by
    by_cases a : x < 0
    · exact .inl ⟨decide_eq_true a, by omega⟩
    · by_cases c : (n : Int) - 1 < x
      · exact .inr (.inr ⟨decide_eq_false a, decide_eq_true c, by omega⟩)
      · exact .inr (.inl ⟨by omega, decide_eq_false (by omega), decide_eq_false (by omega)⟩)
  have hn0 : decide ((n : Int) - 1 < 0) = false := decide_eq_false (by omega)
  obtain ⟨M, hM⟩ : ∃ M, m.toNat = M := ⟨_, rfl⟩
  have HM := Lib.hid hM
  rw [hM]
  have HP0 : Hid (p = posU l 0 p) := Lib.hid (posU_0 l p (by omega)).symm
  clear hM hcl hn hR hcx hbl
  rcases hcase with ⟨hx, hp0⟩ | ⟨hx, hx1, hx2⟩ | ⟨hx, hx1, hx2⟩
  · have HP := Lib.hid hp0
    clear hp0
    go_enter Try.func22, Try.ntmps22
    go_wp2
    go_loop [1, 9] (fun xs ks => ∃ q k : Nat, xs = .int .i64 q ∧ ks = .int .i64 k ∧ q ≤ n - 1 ∧ k ≤ n + 1 ∧ k ≤ M ∧ Hid (q = posU l k p)) (fun _ ks => n + 1 - (intOf ks).toNat)
    case atStart => exact ⟨p, 0, by congr 1; have := HP.out; omega, rfl, hp, Nat.zero_le _, Nat.zero_le _, HP0⟩
    case round =>
      obtain ⟨q, k, rfl, rfl, hq, hk1, hkM, HQ⟩ := hrel
      by_cases hkm : (k : Int) < m
      · by_cases hkn : k ≤ n
        · have hkd : decide ((k : Int) < m) = true := decide_eq_true hkm
          have hkn2 : decide (k ≤ n) = true := decide_eq_true hkn
          have HQ1 : Hid (posU l 1 q = posU l (k + 1) p) := Lib.hid (by rw [HQ.out, ← posU_snoc])
          have hk2 : k + 1 ≤ M := by have := HM.out; omega
          clear hkm HQ
          by_cases hql : q < n - 1
          · have hqi : IntKind.i64.wrap ((q : Int) + 1) = (q : Int) + 1 := IntWalk.i64_in _ (by omega)
            have HY0 : Hid (posU l 1 (q + 1 - 1) = posU l (k + 1) p) := Lib.hid HQ1.out
            clear HQ1 hqi
            go_wp2
            go_loop [10] (fun a => ∃ y : Nat, a = .int .i64 y ∧ 1 ≤ y ∧ y ≤ n - 1 ∧ Hid (posU l 1 (y - 1) = posU l (k + 1) p)) (fun a => n - (intOf a).toNat)
            case atStart => exact ⟨q + 1, by go_num, by omega, by omega, HY0⟩
            case round =>
              obtain ⟨y, rfl, hy1, hy2, HY⟩ := hrel
              have hd0 : decide (0 < (y : Int)) = true := decide_eq_true (by omega)
              by_cases hyl : y < n - 1
              · have hd1 : decide ((y : Int) < (n : Int) - 1) = true := decide_eq_true (by omega)
                have hcx := HX.out y (by have := HN.out; omega)
                obtain ⟨v, hv⟩ : ∃ v, l[y]?.getD false = v := ⟨_, rfl⟩
                rw [hv] at hcx
                have HV := Lib.hid hv
                have hyn : (y : Int) < (n : Int) := by omega
                clear hv
                cases v with
                | true =>
                  have HE : Hid (posU l (k + 1) p = y) := Lib.hid (by rw [← HY.out]; exact posU_stop l y hy1 (by have := HN.out; omega) HV.out)
                  clear HY HV hyl
                  go_wp2
                  go_round
                  case rel => exact ⟨y, k + 1, rfl, by go_num, by omega, by omega, hk2, Lib.hid HE.out.symm⟩
                  case measure => simp [intOf]; omega
                | false =>
                  have HE : Hid (posU l 1 (y + 1 - 1) = posU l (k + 1) p) := Lib.hid (by rw [← HY.out]; exact (posU_on l y hy1 (by have := HN.out; omega) HV.out).symm)
                  clear HY HV
                  go_wp2
                  go_round
                  case rel => exact ⟨y + 1, by go_num, by omega, by omega, HE⟩
                  case measure => simp [intOf]; omega
              · have hd1 : decide ((y : Int) < (n : Int) - 1) = false := decide_eq_false (by omega)
                have HE : Hid (posU l (k + 1) p = y) := Lib.hid (by rw [← HY.out]; exact posU_edge l y hy1 (by have := HN.out; omega))
                have hyn : decide (y < n) = true := decide_eq_true (by omega)
                clear HY hyl
                go_wp2
                go_round
                case rel => exact ⟨y, k + 1, rfl, by go_num, by omega, by omega, hk2, Lib.hid HE.out.symm⟩
                case measure => simp [intOf]; omega
          · have HE : Hid (posU l (k + 1) p = q) := Lib.hid (by rw [← HQ1.out, show q = l.length - 1 by have := HN.out; omega, posU_last])
            have hd1 : decide ((q : Int) + 1 < (n : Int) - 1) = false := decide_eq_false (by omega)
            have hd2 : decide ((q : Int) + 1 < (n : Int)) = false := decide_eq_false (by omega)
            clear HQ1 hql
            go_wp2
            refine wp_loop_rounds 1 ?_
            rw [rounds_succ]
            go_wp2
            go_round
            case rel => exact ⟨q, k + 1, rfl, by go_num, hq, by omega, hk2, Lib.hid HE.out.symm⟩
            case measure => simp [intOf]; omega
        · have hkd : decide ((k : Int) < m) = true := decide_eq_true hkm
          have hkn2 : decide (k ≤ n) = false := decide_eq_false hkn
          have HE : Hid (posU l M p = q) := Lib.hid (by have h1 := HN.out; have h2 := HM.out; rw [HQ.out, posU_fix l M p (by omega), posU_fix l k p (by omega)])
          clear hkm hkn
          go_wp2
          go_ret
          exact ⟨by rw [HE.out]; rfl, rfl⟩
      · have hkd : decide ((k : Int) < m) = false := decide_eq_false hkm
        have HE : Hid (posU l M p = q) := Lib.hid (by rw [HQ.out, show k = M by have := HM.out; omega])
        clear hkm
        go_wp2
        go_ret
        exact ⟨by rw [HE.out]; rfl, rfl⟩
  · subst hx
    go_enter Try.func22, Try.ntmps22
    go_wp2
    go_loop [1, 9] (fun xs ks => ∃ q k : Nat, xs = .int .i64 q ∧ ks = .int .i64 k ∧ q ≤ n - 1 ∧ k ≤ n + 1 ∧ k ≤ M ∧ Hid (q = posU l k p)) (fun _ ks => n + 1 - (intOf ks).toNat)
    case atStart => exact ⟨p, 0, rfl, rfl, hp, Nat.zero_le _, Nat.zero_le _, HP0⟩
    case round =>
      obtain ⟨q, k, rfl, rfl, hq, hk1, hkM, HQ⟩ := hrel
      by_cases hkm : (k : Int) < m
      · by_cases hkn : k ≤ n
        · have hkd : decide ((k : Int) < m) = true := decide_eq_true hkm
          have hkn2 : decide (k ≤ n) = true := decide_eq_true hkn
          have HQ1 : Hid (posU l 1 q = posU l (k + 1) p) := Lib.hid (by rw [HQ.out, ← posU_snoc])
          have hk2 : k + 1 ≤ M := by have := HM.out; omega
          clear hkm HQ
          by_cases hql : q < n - 1
          · have hqi : IntKind.i64.wrap ((q : Int) + 1) = (q : Int) + 1 := IntWalk.i64_in _ (by omega)
            have HY0 : Hid (posU l 1 (q + 1 - 1) = posU l (k + 1) p) := Lib.hid HQ1.out
            clear HQ1 hqi
            go_wp2
            go_loop [10] (fun a => ∃ y : Nat, a = .int .i64 y ∧ 1 ≤ y ∧ y ≤ n - 1 ∧ Hid (posU l 1 (y - 1) = posU l (k + 1) p)) (fun a => n - (intOf a).toNat)
            case atStart => exact ⟨q + 1, by go_num, by omega, by omega, HY0⟩
            case round =>
              obtain ⟨y, rfl, hy1, hy2, HY⟩ := hrel
              have hd0 : decide (0 < (y : Int)) = true := decide_eq_true (by omega)
              by_cases hyl : y < n - 1
              · have hd1 : decide ((y : Int) < (n : Int) - 1) = true := decide_eq_true (by omega)
                have hcx := HX.out y (by have := HN.out; omega)
                obtain ⟨v, hv⟩ : ∃ v, l[y]?.getD false = v := ⟨_, rfl⟩
                rw [hv] at hcx
                have HV := Lib.hid hv
                have hyn : (y : Int) < (n : Int) := by omega
                clear hv
                cases v with
                | true =>
                  have HE : Hid (posU l (k + 1) p = y) := Lib.hid (by rw [← HY.out]; exact posU_stop l y hy1 (by have := HN.out; omega) HV.out)
                  clear HY HV hyl
                  go_wp2
                  go_round
                  case rel => exact ⟨y, k + 1, rfl, by go_num, by omega, by omega, hk2, Lib.hid HE.out.symm⟩
                  case measure => simp [intOf]; omega
                | false =>
                  have HE : Hid (posU l 1 (y + 1 - 1) = posU l (k + 1) p) := Lib.hid (by rw [← HY.out]; exact (posU_on l y hy1 (by have := HN.out; omega) HV.out).symm)
                  clear HY HV
                  go_wp2
                  go_round
                  case rel => exact ⟨y + 1, by go_num, by omega, by omega, HE⟩
                  case measure => simp [intOf]; omega
              · have hd1 : decide ((y : Int) < (n : Int) - 1) = false := decide_eq_false (by omega)
                have HE : Hid (posU l (k + 1) p = y) := Lib.hid (by rw [← HY.out]; exact posU_edge l y hy1 (by have := HN.out; omega))
                have hyn : decide (y < n) = true := decide_eq_true (by omega)
                clear HY hyl
                go_wp2
                go_round
                case rel => exact ⟨y, k + 1, rfl, by go_num, by omega, by omega, hk2, Lib.hid HE.out.symm⟩
                case measure => simp [intOf]; omega
          · have HE : Hid (posU l (k + 1) p = q) := Lib.hid (by rw [← HQ1.out, show q = l.length - 1 by have := HN.out; omega, posU_last])
            have hd1 : decide ((q : Int) + 1 < (n : Int) - 1) = false := decide_eq_false (by omega)
            have hd2 : decide ((q : Int) + 1 < (n : Int)) = false := decide_eq_false (by omega)
            clear HQ1 hql
            go_wp2
            refine wp_loop_rounds 1 ?_
            rw [rounds_succ]
            go_wp2
            go_round
            case rel => exact ⟨q, k + 1, rfl, by go_num, hq, by omega, hk2, Lib.hid HE.out.symm⟩
            case measure => simp [intOf]; omega
        · have hkd : decide ((k : Int) < m) = true := decide_eq_true hkm
          have hkn2 : decide (k ≤ n) = false := decide_eq_false hkn
          have HE : Hid (posU l M p = q) := Lib.hid (by have h1 := HN.out; have h2 := HM.out; rw [HQ.out, posU_fix l M p (by omega), posU_fix l k p (by omega)])
          clear hkm hkn
          go_wp2
          go_ret
          exact ⟨by rw [HE.out]; rfl, rfl⟩
      · have hkd : decide ((k : Int) < m) = false := decide_eq_false hkm
        have HE : Hid (posU l M p = q) := Lib.hid (by rw [HQ.out, show k = M by have := HM.out; omega])
        clear hkm
        go_wp2
        go_ret
        exact ⟨by rw [HE.out]; rfl, rfl⟩
  · have HP := Lib.hid hx2
    clear hx2
    go_enter Try.func22, Try.ntmps22
    go_wp2
    go_loop [1, 9] (fun xs ks => ∃ q k : Nat, xs = .int .i64 q ∧ ks = .int .i64 k ∧ q ≤ n - 1 ∧ k ≤ n + 1 ∧ k ≤ M ∧ Hid (q = posU l k p)) (fun _ ks => n + 1 - (intOf ks).toNat)
    case atStart => exact ⟨p, 0, by rw [HP.out], rfl, hp, Nat.zero_le _, Nat.zero_le _, HP0⟩
    case round =>
      obtain ⟨q, k, rfl, rfl, hq, hk1, hkM, HQ⟩ := hrel
      by_cases hkm : (k : Int) < m
      · by_cases hkn : k ≤ n
        · have hkd : decide ((k : Int) < m) = true := decide_eq_true hkm
          have hkn2 : decide (k ≤ n) = true := decide_eq_true hkn
          have HQ1 : Hid (posU l 1 q = posU l (k + 1) p) := Lib.hid (by rw [HQ.out, ← posU_snoc])
          have hk2 : k + 1 ≤ M := by have := HM.out; omega
          clear hkm HQ
          by_cases hql : q < n - 1
          · have hqi : IntKind.i64.wrap ((q : Int) + 1) = (q : Int) + 1 := IntWalk.i64_in _ (by omega)
            have HY0 : Hid (posU l 1 (q + 1 - 1) = posU l (k + 1) p) := Lib.hid HQ1.out
            clear HQ1 hqi
            go_wp2
            go_loop [10] (fun a => ∃ y : Nat, a = .int .i64 y ∧ 1 ≤ y ∧ y ≤ n - 1 ∧ Hid (posU l 1 (y - 1) = posU l (k + 1) p)) (fun a => n - (intOf a).toNat)
            case atStart => exact ⟨q + 1, by go_num, by omega, by omega, HY0⟩
            case round =>
              obtain ⟨y, rfl, hy1, hy2, HY⟩ := hrel
              have hd0 : decide (0 < (y : Int)) = true := decide_eq_true (by omega)
              by_cases hyl : y < n - 1
              · have hd1 : decide ((y : Int) < (n : Int) - 1) = true := decide_eq_true (by omega)
                have hcx := HX.out y (by have := HN.out; omega)
                obtain ⟨v, hv⟩ : ∃ v, l[y]?.getD false = v := ⟨_, rfl⟩
                rw [hv] at hcx
                have HV := Lib.hid hv
                have hyn : (y : Int) < (n : Int) := by omega
                clear hv
                cases v with
                | true =>
                  have HE : Hid (posU l (k + 1) p = y) := Lib.hid (by rw [← HY.out]; exact posU_stop l y hy1 (by have := HN.out; omega) HV.out)
                  clear HY HV hyl
                  go_wp2
                  go_round
                  case rel => exact ⟨y, k + 1, rfl, by go_num, by omega, by omega, hk2, Lib.hid HE.out.symm⟩
                  case measure => simp [intOf]; omega
                | false =>
                  have HE : Hid (posU l 1 (y + 1 - 1) = posU l (k + 1) p) := Lib.hid (by rw [← HY.out]; exact (posU_on l y hy1 (by have := HN.out; omega) HV.out).symm)
                  clear HY HV
                  go_wp2
                  go_round
                  case rel => exact ⟨y + 1, by go_num, by omega, by omega, HE⟩
                  case measure => simp [intOf]; omega
              · have hd1 : decide ((y : Int) < (n : Int) - 1) = false := decide_eq_false (by omega)
                have HE : Hid (posU l (k + 1) p = y) := Lib.hid (by rw [← HY.out]; exact posU_edge l y hy1 (by have := HN.out; omega))
                have hyn : decide (y < n) = true := decide_eq_true (by omega)
                clear HY hyl
                go_wp2
                go_round
                case rel => exact ⟨y, k + 1, rfl, by go_num, by omega, by omega, hk2, Lib.hid HE.out.symm⟩
                case measure => simp [intOf]; omega
          · have HE : Hid (posU l (k + 1) p = q) := Lib.hid (by rw [← HQ1.out, show q = l.length - 1 by have := HN.out; omega, posU_last])
            have hd1 : decide ((q : Int) + 1 < (n : Int) - 1) = false := decide_eq_false (by omega)
            have hd2 : decide ((q : Int) + 1 < (n : Int)) = false := decide_eq_false (by omega)
            clear HQ1 hql
            go_wp2
            refine wp_loop_rounds 1 ?_
            rw [rounds_succ]
            go_wp2
            go_round
            case rel => exact ⟨q, k + 1, rfl, by go_num, hq, by omega, hk2, Lib.hid HE.out.symm⟩
            case measure => simp [intOf]; omega
        · have hkd : decide ((k : Int) < m) = true := decide_eq_true hkm
          have hkn2 : decide (k ≤ n) = false := decide_eq_false hkn
          have HE : Hid (posU l M p = q) := Lib.hid (by have h1 := HN.out; have h2 := HM.out; rw [HQ.out, posU_fix l M p (by omega), posU_fix l k p (by omega)])
          clear hkm hkn
          go_wp2
          go_ret
          exact ⟨by rw [HE.out]; rfl, rfl⟩
      · have hkd : decide ((k : Int) < m) = false := decide_eq_false hkm
        have HE : Hid (posU l M p = q) := Lib.hid (by rw [HQ.out, show k = M by have := HM.out; omega])
        clear hkm
        go_wp2
        go_ret
        exact ⟨by rw [HE.out]; rfl, rfl⟩

end Go.Proofs.Ytabipecpkbjdkaa
