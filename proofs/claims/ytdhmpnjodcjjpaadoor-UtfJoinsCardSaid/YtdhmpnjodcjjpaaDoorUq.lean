/- Plain facts: a scalar's bytes by the model and by the document; what is read first of them. -/
import Derived.Test.YtdhmpnjodcjjpaaDoorUj
namespace Go.Proofs.YtdhmpnjodcjjpaaDoor
open Go.RowKit

theorem enc_put (r : Int) (h : scalarB r = true) : Utf8.encode r = strL (putL r) := by
  obtain ⟨h0, h1⟩ := scalarB_bd h
  have hv : Utf8.valid r = true := by
    have := of_decide_eq_true h
    unfold Utf8.valid
    simp only [Bool.or_eq_true, Bool.and_eq_true, decide_eq_true_eq]
    omega
  obtain ⟨n, rfl⟩ := Int.eq_ofNat_of_zero_le h0
  unfold Utf8.encode putL strL
  rw [if_pos h]
  simp only [hv, if_true, Int.toNat_natCast]
  have e1 : ((n : Int) / 64).toNat = n / 64 := by omega
  have e2 : ((n : Int) % 64).toNat = n % 64 := by omega
  have e3 : ((n : Int) / 64 / 64).toNat = n / 4096 := by omega
  have e4 : ((n : Int) / 64 % 64).toNat = n / 64 % 64 := by omega
  have e5 : ((n : Int) / 64 / 64 / 64).toNat = n / 262144 := by omega
  have e6 : ((n : Int) / 64 / 64 % 64).toNat = n / 4096 % 64 := by omega
  by_cases a : n < 128
  · have a' : (n : Int) < 128 := by omega
    rw [if_pos a, if_pos a']
    simp [putN]
  have a' : ¬ (n : Int) < 128 := by omega
  rw [if_neg a, if_neg a']
  by_cases b : n < 2048
  · have b' : (n : Int) < 2048 := by omega
    rw [if_pos b, if_pos b']
    simp [putN, e1, e2]
  have b' : ¬ (n : Int) < 2048 := by omega
  rw [if_neg b, if_neg b']
  by_cases c : n < 65536
  · have c' : (n : Int) < 65536 := by omega
    rw [if_pos c, if_pos c']
    simp [putN, e2, e3, e4]
  have c' : ¬ (n : Int) < 65536 := by omega
  rw [if_neg c, if_neg c']
  simp [putN, e2, e4, e5, e6]

set_option maxHeartbeats 1000000 in
/-- What is read first where a scalar's bytes stand. -/
theorem dec_put_more (r : Int) (h : scalarB r = true) (more : List Nat) : decN (putL r ++ more) = (r.toNat, (putL r).length) := by
  have hsc := of_decide_eq_true h
  obtain ⟨h0, h1⟩ := scalarB_bd h
  obtain ⟨n, rfl⟩ := Int.eq_ofNat_of_zero_le h0
  unfold putL decN
  rw [if_pos h]
  by_cases a : (n : Int) < 128
  · rw [if_pos a]
    have a' : n < 128 := by omega
    simp [putN, Lib.decodeN, a']
  rw [if_neg a]
  by_cases b : (n : Int) < 2048
  · rw [if_pos b]
    simp only [putN, List.cons_append, List.nil_append, List.length_cons, List.getElem?_cons_zero, List.getElem?_cons_succ, Option.getD_some]
    unfold Lib.decodeN
    rw [if_neg (by omega), if_pos (by omega), if_pos (by omega)]
    refine Prod.ext ?_ rfl
    dsimp only
    omega
  rw [if_neg b]
  by_cases c : (n : Int) < 65536
  · rw [if_pos c]
    simp only [putN, List.cons_append, List.nil_append, List.length_cons, List.getElem?_cons_zero, List.getElem?_cons_succ, Option.getD_some]
    unfold Lib.decodeN
    rw [if_neg (by omega), if_neg (by omega), if_pos (by omega), if_pos (by omega)]
    refine Prod.ext ?_ rfl
    dsimp only
    omega
  rw [if_neg c]
  simp only [putN, List.cons_append, List.nil_append, List.length_cons, List.getElem?_cons_zero, List.getElem?_cons_succ, Option.getD_some]
  unfold Lib.decodeN
  rw [if_neg (by omega), if_neg (by omega), if_neg (by omega), if_pos (by omega), if_pos (by omega)]
  refine Prod.ext ?_ rfl
  dsimp only
  omega

set_option maxRecDepth 100000 in
theorem firstT_sz : ∀ z, z < 256 → Lib.firstT z % 8 ≤ (if z < 128 then 1 else if z < 224 then 2 else if z < 240 then 3 else 4) := by decide
theorem putL_len (r : Int) (h : scalarB r = true) : 0 < (putL r).length ∧ (putL r).length ≤ 4 := by
  unfold putL
  rw [if_pos h]
  split
  · simp [putN]
  split
  · simp [putN]
  split <;> simp [putN]
theorem full_put (r : Int) (h : scalarB r = true) (more : List Nat) : fullB (putL r ++ more) = true := by
  obtain ⟨h0, h1⟩ := scalarB_bd h
  have hlt := putL_lt r
  unfold fullB fullN fullX
  refine decide_eq_true ⟨by have := (putL_len r h).1; rw [List.length_append]; omega, .inl ?_⟩
  unfold putL at hlt ⊢
  rw [if_pos h] at hlt ⊢
  by_cases a : r < 128
  · rw [if_pos a] at hlt ⊢
    have := firstT_sz _ (hlt r.toNat (by simp [putN]))
    rw [if_pos (by omega)] at this
    simp only [putN, List.cons_append, List.nil_append, List.length_cons, List.getElem?_cons_zero, Option.getD_some]
    omega
  rw [if_neg a] at hlt ⊢
  by_cases b : r < 2048
  · rw [if_pos b] at hlt ⊢
    have := firstT_sz _ (hlt (192 + (r / 64).toNat) (by simp [putN]))
    rw [if_neg (by omega), if_pos (by omega)] at this
    simp only [putN, List.cons_append, List.nil_append, List.length_cons, List.getElem?_cons_zero, Option.getD_some]
    omega
  rw [if_neg b] at hlt ⊢
  by_cases c : r < 65536
  · rw [if_pos c] at hlt ⊢
    have := firstT_sz _ (hlt (224 + (r / 64 / 64).toNat) (by simp [putN]))
    rw [if_neg (by omega), if_neg (by omega), if_pos (by omega)] at this
    simp only [putN, List.cons_append, List.nil_append, List.length_cons, List.getElem?_cons_zero, Option.getD_some]
    omega
  rw [if_neg c] at hlt ⊢
  have := firstT_sz _ (hlt (240 + (r / 64 / 64 / 64).toNat) (by simp [putN]))
  rw [if_neg (by omega), if_neg (by omega), if_neg (by omega)] at this
  simp only [putN, List.cons_append, List.nil_append, List.length_cons, List.getElem?_cons_zero, Option.getD_some]
  omega
theorem first_put (r : Int) (h : scalarB r = true) (more : List Nat) : firstF (putL r ++ more) = (r.toNat, (putL r).length) := by
  unfold firstF
  rw [dec_put_more r h more]
  refine if_neg fun hh => ?_
  have hr : r = 65533 := by have := (scalarB_bd h).1; have := hh.1; dsimp only at this; omega
  subst hr
  exact absurd hh.2 (by decide)
theorem rd_put (r : Int) (h : scalarB r = true) (more : List Nat) : rdL (putL r ++ more) = (r.toNat, (putL r).length) :: rdL more := by
  rw [rdL_yes _ (full_put r h more), first_put r h more]
  dsimp only
  rw [List.drop_left]
/-- A scalar's bytes are read as this scalar, whatever stands behind them. -/
theorem all_put (r : Int) (h : scalarB r = true) (more : List Nat) : allL (putL r ++ more) = r.toNat :: allL more := by
  unfold allL
  rw [rd_put r h more]
  have es : sumB ((r.toNat, (putL r).length) :: rdL more) = (putL r).length + sumB (rdL more) := by simp [sumB]
  rw [es, List.length_append, List.map_cons, List.cons_append]
  congr 2
  by_cases hh : sumB (rdL more) < more.length
  · rw [if_pos hh, if_pos (by omega)]
  · rw [if_neg hh, if_neg (by omega)]

end Go.Proofs.YtdhmpnjodcjjpaaDoor
