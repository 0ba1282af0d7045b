/- The document's Go, back. -/
import Derived.Test.YtabipecpkbjdkaaTg
namespace Go.Proofs.Ytabipecpkbjdkaa
open Go.RowKit

set_option maxHeartbeats 2000000 in
theorem goD_any (A : Option Addr) (l : List Bool) (n cp : Nat) (x m : Int) (hn : n = l.length) (h2 : 2 ≤ n) (h3 : n ≤ 1000) (w : World) (hR : RB w w.heap.size A l) :
    Calls Try.prog 22 #[.slice A n cp, .int .i64 x, .int .i64 m, .int .i64 (-1)] w fun e w' => e = .returned (.int .i64 (posD l m.toNat (clampZ n x))) ∧ w = w' := by
  have hcl := clampZ_of n x
  have hp := clampZ_le n x h2
  obtain ⟨p, hpe⟩ : ∃ p, clampZ n x = p := ⟨_, rfl⟩
  rw [hpe] at hcl hp ⊢
  clear hpe
  have HN := Lib.hid hn
  obtain ⟨b, rfl, hbl, hcx⟩ := hR (fun e => by rw [e] at hn; simp at hn; omega)
  have HX := Lib.hid hcx
  have hpi : (p : Int) ≤ (n : Int) - 1 := by omega
  have hcase : (decide (x < 0) = true ∧ p = 0) ∨ (x = (p : Int) ∧ decide ((p : Int) < 0) = false ∧ decide ((n : Int) - 1 < (p : Int)) = false) ∨ (decide (x < 0) = false ∧ decide ((n : Int) - 1 < x) = true ∧ (n : Int) - 1 = p) := by
    by_cases a : x < 0
    · exact .inl ⟨decide_eq_true a, by omega⟩
    · by_cases c : (n : Int) - 1 < x
      · exact .inr (.inr ⟨decide_eq_false a, decide_eq_true c, by omega⟩)
      · exact .inr (.inl ⟨by omega, decide_eq_false (by omega), decide_eq_false (by omega)⟩)
  have hn0 : decide ((n : Int) - 1 < 0) = false := decide_eq_false (by omega)
  obtain ⟨M, hM⟩ : ∃ M, m.toNat = M := ⟨_, rfl⟩
  have HM := Lib.hid hM
  rw [hM]
  have HP0 : Hid (p = posD l 0 p) := Lib.hid rfl
  clear hM hcl hn hR hcx hbl
  rcases hcase with ⟨hx, hp0⟩ | ⟨hx, hx1, hx2⟩ | ⟨hx, hx1, hx2⟩
  · have HP := Lib.hid hp0
    clear hp0
    go_enter Try.func22, Try.ntmps22
    go_wp2
    go_loop [1, 9] (fun xs ks => ∃ q k : Nat, xs = .int .i64 q ∧ ks = .int .i64 k ∧ q ≤ n - 1 ∧ k ≤ n + 1 ∧ k ≤ M ∧ Hid (q = posD l k p)) (fun _ ks => n + 1 - (intOf ks).toNat)
    case atStart => exact ⟨p, 0, by congr 1; have := HP.out; omega, rfl, hp, Nat.zero_le _, Nat.zero_le _, HP0⟩
    case round =>
      obtain ⟨q, k, rfl, rfl, hq, hk1, hkM, HQ⟩ := hrel
      by_cases hkm : (k : Int) < m
      · by_cases hkn : k ≤ n
        · have hkd : decide ((k : Int) < m) = true := decide_eq_true hkm
          have hkn2 : decide (k ≤ n) = true := decide_eq_true hkn
          have HQ1 : Hid (posD l 1 q = posD l (k + 1) p) := Lib.hid (by rw [HQ.out, ← posD_snoc])
          have hk2 : k + 1 ≤ M := by have := HM.out; omega
          clear hkm HQ
          by_cases hql : 0 < q
          · obtain ⟨r, hr⟩ : ∃ r, q = r + 1 := ⟨q - 1, by omega⟩
            have hwr : (q : Int) + -1 = (r : Int) := by omega
            have hwr2 : (q : Int) - 1 = (r : Int) := by omega
            have hrn : r ≤ n - 2 := by omega
            have HY0 : Hid (posD l 1 (r + 1) = posD l (k + 1) p) := Lib.hid (by rw [← HQ1.out, hr])
            clear HQ1 hr
            go_wp2
            go_loop [10] (fun a => ∃ y : Nat, a = .int .i64 y ∧ y ≤ n - 2 ∧ Hid (posD l 1 (y + 1) = posD l (k + 1) p)) (fun a => (intOf a).toNat)
            case atStart => exact ⟨r, rfl, hrn, HY0⟩
            case round =>
              clear hwr hwr2
              obtain ⟨y, rfl, hy2, HY⟩ := hrel
              have hd1 : decide ((y : Int) < (n : Int) - 1) = true := decide_eq_true (by omega)
              have hyn : (y : Int) < (n : Int) := by omega
              by_cases hyl : 0 < y
              · have hd0 : decide (0 < (y : Int)) = true := decide_eq_true (by omega)
                have hd0' : decide (0 < y) = true := decide_eq_true hyl
                have hcx := HX.out y (by have := HN.out; omega)
                obtain ⟨v, hv⟩ : ∃ v, l[y]?.getD false = v := ⟨_, rfl⟩
                rw [hv] at hcx
                have HV := Lib.hid hv
                clear hv
                cases v with
                | true =>
                  have HE : Hid (posD l (k + 1) p = y) := Lib.hid (by rw [← HY.out]; exact posD_stop l y HV.out)
                  clear HY HV
                  go_wp2
                  go_round
                  case rel => exact ⟨y, k + 1, rfl, by go_num, by omega, by omega, hk2, Lib.hid HE.out.symm⟩
                  case measure => simp [intOf]; omega
                | false =>
                  obtain ⟨z, hz⟩ : ∃ z, y = z + 1 := ⟨y - 1, by omega⟩
                  have hwz : (y : Int) + -1 = (z : Int) := by omega
                  have hwz2 : (y : Int) - 1 = (z : Int) := by omega
                  have hzn : z ≤ n - 2 := by omega
                  have hzy : z < y := by omega
                  have HE : Hid (posD l 1 (z + 1) = posD l (k + 1) p) := Lib.hid (by rw [← HY.out, ← hz]; exact (posD_on l y HV.out).symm)
                  clear HY HV hz
                  go_wp2
                  go_round
                  case rel => exact ⟨z, rfl, hzn, HE⟩
                  case measure => simp [intOf]; omega
              · have hd0 : decide (0 < (y : Int)) = false := decide_eq_false (by omega)
                have hd0' : decide (0 < y) = false := decide_eq_false hyl
                have HE : Hid (posD l (k + 1) p = y) := Lib.hid (by rw [← HY.out, show y = 0 by omega]; exact posD_edge l)
                clear HY hyl
                go_wp2
                go_round
                case rel => exact ⟨y, k + 1, rfl, by go_num, by omega, by omega, hk2, Lib.hid HE.out.symm⟩
                case measure => simp [intOf]; omega
          · have HE : Hid (posD l (k + 1) p = q) := Lib.hid (by rw [← HQ1.out, show q = 0 by omega, posD_last])
            have hd1 : decide (0 < (q : Int) + -1) = false := decide_eq_false (by omega)
            have hd2 : decide (0 ≤ (q : Int) + -1) = false := decide_eq_false (by omega)
            have hd3 : decide (0 < (q : Int) - 1) = false := decide_eq_false (by omega)
            have hd4 : decide (0 ≤ (q : Int) - 1) = false := decide_eq_false (by omega)
            have hd5 : decide (1 ≤ (q : Int)) = false := decide_eq_false (by omega)
            clear HQ1 hql
            go_wp2
            refine wp_loop_rounds 1 ?_
            rw [rounds_succ]
            go_wp2
            go_round
            case rel => exact ⟨q, k + 1, rfl, by go_num, hq, by omega, hk2, Lib.hid HE.out.symm⟩
            case measure => simp [intOf]; omega
        · have hkd : decide ((k : Int) < m) = true := decide_eq_true hkm
          have hkn2 : decide (k ≤ n) = false := decide_eq_false hkn
          have HE : Hid (posD l M p = q) := Lib.hid (by have h1 := HN.out; have h2 := HM.out; rw [HQ.out, posD_fix l M p (by omega) (by omega), posD_fix l k p (by omega) (by omega)])
          clear hkm hkn
          go_wp2
          go_ret
          exact ⟨by rw [HE.out]; rfl, rfl⟩
      · have hkd : decide ((k : Int) < m) = false := decide_eq_false hkm
        have HE : Hid (posD l M p = q) := Lib.hid (by rw [HQ.out, show k = M by have := HM.out; omega])
        clear hkm
        go_wp2
        go_ret
        exact ⟨by rw [HE.out]; rfl, rfl⟩
  · subst hx
    go_enter Try.func22, Try.ntmps22
    go_wp2
    go_loop [1, 9] (fun xs ks => ∃ q k : Nat, xs = .int .i64 q ∧ ks = .int .i64 k ∧ q ≤ n - 1 ∧ k ≤ n + 1 ∧ k ≤ M ∧ Hid (q = posD l k p)) (fun _ ks => n + 1 - (intOf ks).toNat)
    case atStart => exact ⟨p, 0, rfl, rfl, hp, Nat.zero_le _, Nat.zero_le _, HP0⟩
    case round =>
      obtain ⟨q, k, rfl, rfl, hq, hk1, hkM, HQ⟩ := hrel
      by_cases hkm : (k : Int) < m
      · by_cases hkn : k ≤ n
        · have hkd : decide ((k : Int) < m) = true := decide_eq_true hkm
          have hkn2 : decide (k ≤ n) = true := decide_eq_true hkn
          have HQ1 : Hid (posD l 1 q = posD l (k + 1) p) := Lib.hid (by rw [HQ.out, ← posD_snoc])
          have hk2 : k + 1 ≤ M := by have := HM.out; omega
          clear hkm HQ
          by_cases hql : 0 < q
          · obtain ⟨r, hr⟩ : ∃ r, q = r + 1 := ⟨q - 1, by omega⟩
            have hwr : (q : Int) + -1 = (r : Int) := by omega
            have hwr2 : (q : Int) - 1 = (r : Int) := by omega
            have hrn : r ≤ n - 2 := by omega
            have HY0 : Hid (posD l 1 (r + 1) = posD l (k + 1) p) := Lib.hid (by rw [← HQ1.out, hr])
            clear HQ1 hr
            go_wp2
            go_loop [10] (fun a => ∃ y : Nat, a = .int .i64 y ∧ y ≤ n - 2 ∧ Hid (posD l 1 (y + 1) = posD l (k + 1) p)) (fun a => (intOf a).toNat)
            case atStart => exact ⟨r, rfl, hrn, HY0⟩
            case round =>
              clear hwr hwr2
              obtain ⟨y, rfl, hy2, HY⟩ := hrel
              have hd1 : decide ((y : Int) < (n : Int) - 1) = true := decide_eq_true (by omega)
              have hyn : (y : Int) < (n : Int) := by omega
              by_cases hyl : 0 < y
              · have hd0 : decide (0 < (y : Int)) = true := decide_eq_true (by omega)
                have hd0' : decide (0 < y) = true := decide_eq_true hyl
                have hcx := HX.out y (by have := HN.out; omega)
                obtain ⟨v, hv⟩ : ∃ v, l[y]?.getD false = v := ⟨_, rfl⟩
                rw [hv] at hcx
                have HV := Lib.hid hv
                clear hv
                cases v with
                | true =>
                  have HE : Hid (posD l (k + 1) p = y) := Lib.hid (by rw [← HY.out]; exact posD_stop l y HV.out)
                  clear HY HV
                  go_wp2
                  go_round
                  case rel => exact ⟨y, k + 1, rfl, by go_num, by omega, by omega, hk2, Lib.hid HE.out.symm⟩
                  case measure => simp [intOf]; omega
                | false =>
                  obtain ⟨z, hz⟩ : ∃ z, y = z + 1 := ⟨y - 1, by omega⟩
                  have hwz : (y : Int) + -1 = (z : Int) := by omega
                  have hwz2 : (y : Int) - 1 = (z : Int) := by omega
                  have hzn : z ≤ n - 2 := by omega
                  have hzy : z < y := by omega
                  have HE : Hid (posD l 1 (z + 1) = posD l (k + 1) p) := Lib.hid (by rw [← HY.out, ← hz]; exact (posD_on l y HV.out).symm)
                  clear HY HV hz
                  go_wp2
                  go_round
                  case rel => exact ⟨z, rfl, hzn, HE⟩
                  case measure => simp [intOf]; omega
              · have hd0 : decide (0 < (y : Int)) = false := decide_eq_false (by omega)
                have hd0' : decide (0 < y) = false := decide_eq_false hyl
                have HE : Hid (posD l (k + 1) p = y) := Lib.hid (by rw [← HY.out, show y = 0 by omega]; exact posD_edge l)
                clear HY hyl
                go_wp2
                go_round
                case rel => exact ⟨y, k + 1, rfl, by go_num, by omega, by omega, hk2, Lib.hid HE.out.symm⟩
                case measure => simp [intOf]; omega
          · have HE : Hid (posD l (k + 1) p = q) := Lib.hid (by rw [← HQ1.out, show q = 0 by omega, posD_last])
            have hd1 : decide (0 < (q : Int) + -1) = false := decide_eq_false (by omega)
            have hd2 : decide (0 ≤ (q : Int) + -1) = false := decide_eq_false (by omega)
            have hd3 : decide (0 < (q : Int) - 1) = false := decide_eq_false (by omega)
            have hd4 : decide (0 ≤ (q : Int) - 1) = false := decide_eq_false (by omega)
            have hd5 : decide (1 ≤ (q : Int)) = false := decide_eq_false (by omega)
            clear HQ1 hql
            go_wp2
            refine wp_loop_rounds 1 ?_
            rw [rounds_succ]
            go_wp2
            go_round
            case rel => exact ⟨q, k + 1, rfl, by go_num, hq, by omega, hk2, Lib.hid HE.out.symm⟩
            case measure => simp [intOf]; omega
        · have hkd : decide ((k : Int) < m) = true := decide_eq_true hkm
          have hkn2 : decide (k ≤ n) = false := decide_eq_false hkn
          have HE : Hid (posD l M p = q) := Lib.hid (by have h1 := HN.out; have h2 := HM.out; rw [HQ.out, posD_fix l M p (by omega) (by omega), posD_fix l k p (by omega) (by omega)])
          clear hkm hkn
          go_wp2
          go_ret
          exact ⟨by rw [HE.out]; rfl, rfl⟩
      · have hkd : decide ((k : Int) < m) = false := decide_eq_false hkm
        have HE : Hid (posD l M p = q) := Lib.hid (by rw [HQ.out, show k = M by have := HM.out; omega])
        clear hkm
        go_wp2
        go_ret
        exact ⟨by rw [HE.out]; rfl, rfl⟩
  · have HP := Lib.hid hx2
    clear hx2
    go_enter Try.func22, Try.ntmps22
    go_wp2
    go_loop [1, 9] (fun xs ks => ∃ q k : Nat, xs = .int .i64 q ∧ ks = .int .i64 k ∧ q ≤ n - 1 ∧ k ≤ n + 1 ∧ k ≤ M ∧ Hid (q = posD l k p)) (fun _ ks => n + 1 - (intOf ks).toNat)
    case atStart => exact ⟨p, 0, by rw [HP.out], rfl, hp, Nat.zero_le _, Nat.zero_le _, HP0⟩
    case round =>
      obtain ⟨q, k, rfl, rfl, hq, hk1, hkM, HQ⟩ := hrel
      by_cases hkm : (k : Int) < m
      · by_cases hkn : k ≤ n
        · have hkd : decide ((k : Int) < m) = true := decide_eq_true hkm
          have hkn2 : decide (k ≤ n) = true := decide_eq_true hkn
          have HQ1 : Hid (posD l 1 q = posD l (k + 1) p) := Lib.hid (by rw [HQ.out, ← posD_snoc])
          have hk2 : k + 1 ≤ M := by have := HM.out; omega
          clear hkm HQ
          by_cases hql : 0 < q
          · obtain ⟨r, hr⟩ : ∃ r, q = r + 1 := ⟨q - 1, by omega⟩
            have hwr : (q : Int) + -1 = (r : Int) := by omega
            have hwr2 : (q : Int) - 1 = (r : Int) := by omega
            have hrn : r ≤ n - 2 := by omega
            have HY0 : Hid (posD l 1 (r + 1) = posD l (k + 1) p) := Lib.hid (by rw [← HQ1.out, hr])
            clear HQ1 hr
            go_wp2
            go_loop [10] (fun a => ∃ y : Nat, a = .int .i64 y ∧ y ≤ n - 2 ∧ Hid (posD l 1 (y + 1) = posD l (k + 1) p)) (fun a => (intOf a).toNat)
            case atStart => exact ⟨r, rfl, hrn, HY0⟩
            case round =>
              clear hwr hwr2
              obtain ⟨y, rfl, hy2, HY⟩ := hrel
              have hd1 : decide ((y : Int) < (n : Int) - 1) = true := decide_eq_true (by omega)
              have hyn : (y : Int) < (n : Int) := by omega
              by_cases hyl : 0 < y
              · have hd0 : decide (0 < (y : Int)) = true := decide_eq_true (by omega)
                have hd0' : decide (0 < y) = true := decide_eq_true hyl
                have hcx := HX.out y (by have := HN.out; omega)
                obtain ⟨v, hv⟩ : ∃ v, l[y]?.getD false = v := ⟨_, rfl⟩
                rw [hv] at hcx
                have HV := Lib.hid hv
                clear hv
                cases v with
                | true =>
                  have HE : Hid (posD l (k + 1) p = y) := Lib.hid (by rw [← HY.out]; exact posD_stop l y HV.out)
                  clear HY HV
                  go_wp2
                  go_round
                  case rel => exact ⟨y, k + 1, rfl, by go_num, by omega, by omega, hk2, Lib.hid HE.out.symm⟩
                  case measure => simp [intOf]; omega
                | false =>
                  obtain ⟨z, hz⟩ : ∃ z, y = z + 1 := ⟨y - 1, by omega⟩
                  have hwz : (y : Int) + -1 = (z : Int) := by omega
                  have hwz2 : (y : Int) - 1 = (z : Int) := by omega
                  have hzn : z ≤ n - 2 := by omega
                  have hzy : z < y := by omega
                  have HE : Hid (posD l 1 (z + 1) = posD l (k + 1) p) := Lib.hid (by rw [← HY.out, ← hz]; exact (posD_on l y HV.out).symm)
                  clear HY HV hz
                  go_wp2
                  go_round
                  case rel => exact ⟨z, rfl, hzn, HE⟩
                  case measure => simp [intOf]; omega
              · have hd0 : decide (0 < (y : Int)) = false := decide_eq_false (by omega)
                have hd0' : decide (0 < y) = false := decide_eq_false hyl
                have HE : Hid (posD l (k + 1) p = y) := Lib.hid (by rw [← HY.out, show y = 0 by omega]; exact posD_edge l)
                clear HY hyl
                go_wp2
                go_round
                case rel => exact ⟨y, k + 1, rfl, by go_num, by omega, by omega, hk2, Lib.hid HE.out.symm⟩
                case measure => simp [intOf]; omega
          · have HE : Hid (posD l (k + 1) p = q) := Lib.hid (by rw [← HQ1.out, show q = 0 by omega, posD_last])
            have hd1 : decide (0 < (q : Int) + -1) = false := decide_eq_false (by omega)
            have hd2 : decide (0 ≤ (q : Int) + -1) = false := decide_eq_false (by omega)
            have hd3 : decide (0 < (q : Int) - 1) = false := decide_eq_false (by omega)
            have hd4 : decide (0 ≤ (q : Int) - 1) = false := decide_eq_false (by omega)
            have hd5 : decide (1 ≤ (q : Int)) = false := decide_eq_false (by omega)
            clear HQ1 hql
            go_wp2
            refine wp_loop_rounds 1 ?_
            rw [rounds_succ]
            go_wp2
            go_round
            case rel => exact ⟨q, k + 1, rfl, by go_num, hq, by omega, hk2, Lib.hid HE.out.symm⟩
            case measure => simp [intOf]; omega
        · have hkd : decide ((k : Int) < m) = true := decide_eq_true hkm
          have hkn2 : decide (k ≤ n) = false := decide_eq_false hkn
          have HE : Hid (posD l M p = q) := Lib.hid (by have h1 := HN.out; have h2 := HM.out; rw [HQ.out, posD_fix l M p (by omega) (by omega), posD_fix l k p (by omega) (by omega)])
          clear hkm hkn
          go_wp2
          go_ret
          exact ⟨by rw [HE.out]; rfl, rfl⟩
      · have hkd : decide ((k : Int) < m) = false := decide_eq_false hkm
        have HE : Hid (posD l M p = q) := Lib.hid (by rw [HQ.out, show k = M by have := HM.out; omega])
        clear hkm
        go_wp2
        go_ret
        exact ⟨by rw [HE.out]; rfl, rfl⟩

end Go.Proofs.Ytabipecpkbjdkaa
