/- Plain facts: which bytes are a scalar's, which begin so, what is read first of any, by the document and by the program. -/
import Derived.Test.YtoiekhjmfoodiaaDoorHc
import Derived.Test.YtoiekhjmfoodiaaDoorKa
import Derived.Deep.AppendLies
import Derived.Deep.RegionWith
namespace Go.Proofs.YtoiekhjmfoodiaaDoor
open Go.RowKit

set_option maxRecDepth 100000 in
theorem full_four (zs : List Nat) (h8 : ∀ z ∈ zs, z < 256) (h : fullB zs = false) : zs.length ≤ 3 := by
  rcases Nat.lt_or_ge zs.length 4 with h4 | h4
  · omega
  · exfalso
    have h0 : zs[0]?.getD 0 < 256 := by
      rw [List.getElem?_eq_getElem (by omega)]
      exact h8 _ (List.getElem_mem _)
    have ht : ∀ z, z < 256 → Lib.firstT z % 8 ≤ 4 := by decide
    have := ht _ h0
    unfold fullB fullN fullX at h
    exact of_decide_eq_false h ⟨by omega, .inl (by omega)⟩
set_option maxRecDepth 100000 in
theorem rd_sum : ∀ (n : Nat) (zs : List Nat), zs.length ≤ n → (∀ z ∈ zs, z < 256) → sumB (rdL zs) ≤ zs.length ∧ zs.length ≤ sumB (rdL zs) + 3
  | 0, zs, hn, _ => by
    have : zs = [] := List.length_eq_zero_iff.1 (by omega)
    subst this
    exact ⟨Nat.le_refl _, by omega⟩
  | n + 1, zs, hn, h8 => by
    cases hf : fullB zs with
    | false =>
      rw [rdL_no zs hf]
      have := full_four zs h8 hf
      simp [sumB]
      omega
    | true =>
      have hb := firstF_bd zs (fullB_pos hf)
      have ih := rd_sum n (zs.drop (firstF zs).2) (by simp; omega) (fun z hz => h8 z (List.mem_of_mem_drop hz))
      rw [rdL_yes zs hf]
      simp only [sumB, List.map_cons, List.sum_cons, List.length_drop] at ih ⊢
      omega

set_option maxRecDepth 100000 in
theorem numZ_1 (a : Nat) : numZ [a] = a := rfl
set_option maxRecDepth 100000 in
theorem contB_2 (a b : Nat) : contB [a, b] 2 = (decide (128 ≤ b) && decide (b ≤ 191)) := by
  simp [contB, List.range_succ]
set_option maxRecDepth 100000 in
theorem contB_3 (a b c : Nat) : contB [a, b, c] 3 = ((decide (128 ≤ b) && decide (b ≤ 191)) && (decide (128 ≤ c) && decide (c ≤ 191))) := by
  simp [contB, List.range_succ]
set_option maxRecDepth 100000 in
theorem contB_4 (a b c d : Nat) : contB [a, b, c, d] 4 = (((decide (128 ≤ b) && decide (b ≤ 191)) && (decide (128 ≤ c) && decide (c ≤ 191))) && (decide (128 ≤ d) && decide (d ≤ 191))) := by
  simp [contB, List.range_succ, Bool.and_assoc]
set_option maxRecDepth 100000 in
theorem numZ_2 (a b : Nat) : numZ [a, b] = if 192 ≤ a ∧ a < 224 ∧ 128 ≤ b ∧ b ≤ 191 then 64 * ((a : Int) - 192) + ((b : Int) - 128) else -1 := by
  have e : numZ [a, b] = numN 192 32 2 [a, b] := rfl
  rw [e]
  unfold numN
  rw [contB_2]
  simp only [List.getElem?_cons_zero, Option.getD_some, Bool.and_eq_true, decide_eq_true_eq]
  have hv : accZ 192 [a, b] 2 = 64 * ((a : Int) - 192) + (b : Int) - 128 := rfl
  rw [hv]
  repeat' split
  all_goals omega
set_option maxRecDepth 100000 in
theorem numZ_3 (a b c : Nat) : numZ [a, b, c] = if 224 ≤ a ∧ a < 240 ∧ 128 ≤ b ∧ b ≤ 191 ∧ 128 ≤ c ∧ c ≤ 191 then 4096 * ((a : Int) - 224) + 64 * ((b : Int) - 128) + ((c : Int) - 128) else -1 := by
  have e : numZ [a, b, c] = numN 224 16 3 [a, b, c] := rfl
  rw [e]
  unfold numN
  rw [contB_3]
  simp only [List.getElem?_cons_zero, Option.getD_some, Bool.and_eq_true, decide_eq_true_eq]
  have hv : accZ 224 [a, b, c] 3 = 64 * (64 * ((a : Int) - 224) + (b : Int) - 128) + (c : Int) - 128 := rfl
  rw [hv]
  repeat' split
  all_goals omega
set_option maxRecDepth 100000 in
theorem numZ_4 (a b c d : Nat) : numZ [a, b, c, d] = if 240 ≤ a ∧ a < 248 ∧ 128 ≤ b ∧ b ≤ 191 ∧ 128 ≤ c ∧ c ≤ 191 ∧ 128 ≤ d ∧ d ≤ 191 then 262144 * ((a : Int) - 240) + 4096 * ((b : Int) - 128) + 64 * ((c : Int) - 128) + ((d : Int) - 128) else -1 := by
  have e : numZ [a, b, c, d] = numN 240 8 4 [a, b, c, d] := rfl
  rw [e]
  unfold numN
  rw [contB_4]
  simp only [List.getElem?_cons_zero, Option.getD_some, Bool.and_eq_true, decide_eq_true_eq]
  have hv : accZ 240 [a, b, c, d] 4 = 64 * (64 * (64 * ((a : Int) - 240) + (b : Int) - 128) + (c : Int) - 128) + (d : Int) - 128 := rfl
  rw [hv]
  repeat' split
  all_goals omega

set_option maxRecDepth 100000 in
/-- What a scalar's bytes say. -/
theorem num_put (r : Int) (h : scalarB r = true) : numZ (putL r) = r := by
  obtain ⟨h0, h1⟩ := scalarB_bd h
  obtain ⟨n, rfl⟩ := Int.eq_ofNat_of_zero_le h0
  unfold putL
  rw [if_pos h]
  by_cases a : (n : Int) < 128
  · rw [if_pos a]
    simp only [putN, numZ_1]
    omega
  rw [if_neg a]
  by_cases b : (n : Int) < 2048
  · rw [if_pos b]
    simp only [putN, numZ_2]
    rw [if_pos (by omega)]
    omega
  rw [if_neg b]
  by_cases c : (n : Int) < 65536
  · rw [if_pos c]
    simp only [putN, numZ_3]
    rw [if_pos (by omega)]
    omega
  rw [if_neg c]
  simp only [putN, numZ_4]
  rw [if_pos (by omega)]
  omega
set_option maxRecDepth 100000 in
theorem is_put (r : Int) (h : scalarB r = true) : isB (putL r) = true := by
  unfold isB
  rw [num_put r h, decide_eq_true (scalarB_bd h).1, decide_eq_true rfl]
  rfl
set_option maxRecDepth 100000 in
/-- What is a scalar's bytes. -/
theorem is_some {zs : List Nat} (h : isB zs = true) : scalarB (numZ zs) = true ∧ putL (numZ zs) = zs := by
  unfold isB at h
  simp only [Bool.and_eq_true, decide_eq_true_eq] at h
  refine ⟨?_, h.2⟩
  cases hs : scalarB (numZ zs) with
  | true => rfl
  | false =>
    exfalso
    have e : putL (numZ zs) = [] := by unfold putL; rw [hs]; rfl
    have ez : zs = [] := by rw [← h.2]; exact e
    rw [ez] at h
    exact absurd h.1 (by decide)

set_option maxRecDepth 100000 in
/-- What is read first where a scalar's bytes stand. -/
theorem first_is (zs : List Nat) (n : Nat) (hn : n ≤ zs.length) (h : isB (zs.take n) = true) : firstF zs = ((numZ (zs.take n)).toNat, n) := by
  obtain ⟨hs, hp⟩ := is_some h
  have := first_put _ hs (zs.drop n)
  rw [hp, List.take_append_drop] at this
  rw [this, List.length_take, Nat.min_eq_left hn]

set_option maxRecDepth 100000 in
set_option maxHeartbeats 4000000 in
set_option maxRecDepth 100000 in
/-- What the library reads is broken, or a scalar whose bytes stand there. -/
theorem dec_some (zs : List Nat) (h8 : ∀ z ∈ zs, z < 256) (h0 : zs ≠ []) : decN zs = (65533, 1) ∨ (1 ≤ (decN zs).2 ∧ (decN zs).2 ≤ 4 ∧ (decN zs).2 ≤ zs.length ∧ isB (zs.take (decN zs).2) = true) := by
  have key : ∀ (r : Nat) (k : Nat), scalarB r = true → (putL r).length = k → zs.take k = putL r → (r, k) = (65533, 1) ∨ (1 ≤ k ∧ k ≤ 4 ∧ k ≤ zs.length ∧ isB (zs.take k) = true) := fun r k hs hl ht => by
    have hb := putL_len r hs
    refine .inr ⟨by omega, by omega, ?_, by rw [ht]; exact is_put r hs⟩
    have := congrArg List.length ht
    rw [List.length_take, hl] at this
    omega
  have hput : ∀ n : Nat, (n < 55296 ∨ (57344 ≤ n ∧ n ≤ 1114111)) → scalarB (n : Int) = true := fun n hn => decide_eq_true (by omega)
  match zs, h0, h8 with
  | a :: t, _, h8 =>
    have ha := h8 a (by simp)
    unfold decN
    simp only [List.getElem?_cons_zero, Option.getD_some, List.length_cons, List.getElem?_cons_succ]
    unfold Lib.decodeN
    split
    · rename_i h1
      refine key a 1 (hput a (by omega)) ?_ ?_
      · unfold putL; rw [if_pos (hput a (by omega)), if_pos (by omega)]; rfl
      · unfold putL; rw [if_pos (hput a (by omega)), if_pos (by omega)]; simp [putN]
    rename_i h1
    split
    · rename_i h2
      match t, h8 with
      | [], _ => exact absurd h2.2.1 (by simp)
      | b :: t, h8 =>
        have hb := h8 b (by simp)
        simp only [List.getElem?_cons_zero, Option.getD_some] at h2 ⊢
        split
        · rename_i h3
          generalize hr : a % 32 * 64 + b % 64 = r
          have hr2 : 128 ≤ r ∧ r < 2048 := by omega
          have e : putL (r : Int) = [a, b] := by
            unfold putL
            rw [if_pos (hput r (by omega)), if_neg (by omega), if_pos (by omega)]
            simp only [putN]
            congr 1
            · omega
            congr 1
            omega
          exact key r 2 (hput r (by omega)) (by rw [e]; rfl) (by rw [e]; rfl)
        · exact .inl rfl
    rename_i h2
    split
    · rename_i h3
      match t, h8 with
      | [], _ => exact absurd h3.2.1.1 (by simp)
      | [_], _ => exact absurd h3.2.2.1 (by simp)
      | b :: c :: t, h8 =>
        have hb := h8 b (by simp)
        have hc := h8 c (by simp)
        simp only [List.getElem?_cons_zero, Option.getD_some, List.getElem?_cons_succ] at h3 ⊢
        split
        · rename_i h4
          generalize hr : a % 16 * 4096 + b % 64 * 64 + c % 64 = r at h4 ⊢
          have hr2 : 2048 ≤ r ∧ r < 65536 := by omega
          have hq : r / 64 / 64 = a % 16 ∧ r / 64 % 64 = b % 64 ∧ r % 64 = c % 64 := by omega
          have e : putL (r : Int) = [a, b, c] := by
            unfold putL
            rw [if_pos (hput r (by omega)), if_neg (by omega), if_neg (by omega), if_pos (by omega)]
            simp only [putN]
            congr 1
            · omega
            congr 1
            · omega
            congr 1
            omega
          exact key r 3 (hput r (by omega)) (by rw [e]; rfl) (by rw [e]; rfl)
        · exact .inl rfl
    rename_i h3
    split
    · rename_i h4
      match t, h8 with
      | [], _ => exact absurd h4.2.1.1 (by simp)
      | [_], _ => exact absurd h4.2.2.1.1 (by simp)
      | [_, _], _ => exact absurd h4.2.2.2.1 (by simp)
      | b :: c :: d :: t, h8 =>
        have hb := h8 b (by simp)
        have hc := h8 c (by simp)
        have hd := h8 d (by simp)
        simp only [List.getElem?_cons_zero, Option.getD_some, List.getElem?_cons_succ] at h4 ⊢
        split
        · rename_i h5
          generalize hr : a % 8 * 262144 + b % 64 * 4096 + c % 64 * 64 + d % 64 = r at h5 ⊢
          have hr2 : 65536 ≤ r ∧ r ≤ 1114111 := by omega
          have hq : r / 64 / 64 / 64 = a % 8 ∧ r / 64 / 64 % 64 = b % 64 ∧ r / 64 % 64 = c % 64 ∧ r % 64 = d % 64 := by omega
          have e : putL (r : Int) = [a, b, c, d] := by
            unfold putL
            rw [if_pos (hput r (by omega)), if_neg (by omega), if_neg (by omega), if_neg (by omega)]
            simp only [putN]
            congr 1
            · omega
            congr 1
            · omega
            congr 1
            · omega
            congr 1
            omega
          exact key r 4 (hput r (by omega)) (by rw [e]; rfl) (by rw [e]; rfl)
        · exact .inl rfl
    · exact .inl rfl

set_option maxRecDepth 100000 in
/-- Where no scalar's bytes stand, it is broken. -/
theorem first_not (zs : List Nat) (h8 : ∀ z ∈ zs, z < 256) (h0 : zs ≠ []) (h : ∀ n, 1 ≤ n → n ≤ 4 → n ≤ zs.length → isB (zs.take n) = false) : firstF zs = (65533, begF zs) := by
  rcases dec_some zs h8 h0 with e | ⟨h1, h2, h3, h4⟩
  · unfold firstF
    rw [e, if_pos ⟨rfl, rfl⟩]
  · rw [h _ h1 h2 h3] at h4
    cases h4

set_option maxRecDepth 100000 in
theorem full_more (zs : List Nat) (n : Nat) (h : fullB (zs.take n) = true) : fullB (zs.take (n + 1)) = true := by
  unfold fullB fullN fullX at h ⊢
  have h := of_decide_eq_true h
  refine decide_eq_true ?_
  simp only [List.length_take] at h ⊢
  have g : ∀ i, i < n → (zs.take (n + 1))[i]?.getD 0 = (zs.take n)[i]?.getD 0 := fun i hi => by
    rw [List.getElem?_take, List.getElem?_take, if_pos hi, if_pos (by omega)]
  rw [g 0 (by omega)]
  refine ⟨by omega, ?_⟩
  rcases h.2 with h2 | h2 | h2
  · exact .inl (by omega)
  · rw [g 1 (by omega)]
    exact .inr (.inl ⟨by omega, h2.2⟩)
  · rw [g 2 (by omega)]
    exact .inr (.inr ⟨by omega, h2.2⟩)
/-- The size of what is broken. -/
def sizeF (zs : List Nat) (m : Nat) : Nat := if 3 ≤ m ∧ 3 ≤ zs.length ∧ fullB (zs.take 3) = false then 3 else if 2 ≤ m ∧ 2 ≤ zs.length ∧ fullB (zs.take 2) = false then 2 else 1
set_option maxRecDepth 100000 in
theorem size_beg (zs : List Nat) : sizeF zs 3 = begF zs := by
  unfold sizeF begF
  have hm := full_more zs 2
  have h4 := full4 zs
  cases h2 : fullB (zs.take 2)
  · cases h3 : fullB (zs.take 3)
    · cases h4' : fullB (zs.take 4)
      · rw [h4'] at h4
        by_cases a : zs.length ≤ 1
        · rw [if_neg (by omega), if_neg (by omega), if_pos (.inl a)]
        by_cases b : zs.length ≤ 2
        · rw [if_neg (by omega), if_pos ⟨by omega, by omega, rfl⟩, if_neg (by simp; omega), if_pos (.inl b)]
        by_cases c : zs.length ≤ 3
        · rw [if_pos ⟨by omega, by omega, rfl⟩, if_neg (by simp; omega), if_neg (by simp; omega), if_pos (.inl c)]
        · exact absurd (h4 (by omega)) (by simp)
      · by_cases a : zs.length ≤ 1
        · rw [if_neg (by omega), if_neg (by omega), if_pos (.inl a)]
        by_cases b : zs.length ≤ 2
        · rw [if_neg (by omega), if_pos ⟨by omega, by omega, rfl⟩, if_neg (by simp; omega), if_pos (.inl b)]
        · rw [if_pos ⟨by omega, by omega, rfl⟩, if_neg (by simp; omega), if_neg (by simp; omega), if_pos (.inr rfl)]
    · by_cases a : zs.length ≤ 1
      · rw [if_neg (by simp), if_neg (by omega), if_pos (.inl a)]
      · rw [if_neg (by simp), if_pos ⟨by omega, by omega, rfl⟩, if_neg (by simp; omega), if_pos (.inr rfl)]
  · rw [hm h2]
    simp

set_option maxRecDepth 100000 in
/-- What is no beginning, or nothing: its first bytes. -/
theorem full_take (zs : List Nat) (hf : fullB zs = false) (n : Nat) : fullB (zs.take n) = false := by
  cases hq : fullB (zs.take n) with
  | false => rfl
  | true =>
    exfalso
    have : ∀ d, fullB (zs.take (n + d)) = true := fun d => by
      induction d with
      | zero => exact hq
      | succ d ih => exact full_more zs (n + d) ih
    have h := this zs.length
    rw [List.take_of_length_le (by omega), hf] at h
    cases h
set_option maxRecDepth 100000 in
/-- A beginning is read as one broken scalar. -/
theorem first_wait (zs : List Nat) (h8 : ∀ z ∈ zs, z < 256) (h0 : zs ≠ []) (hf : fullB zs = false) : firstF zs = (65533, zs.length) := by
  have hl := full_four zs h8 hf
  have hp := List.length_pos_iff.2 h0
  rw [first_not zs h8 h0]
  · congr 1
    unfold begF
    rw [full_take zs hf, full_take zs hf, full_take zs hf]
    rcases (by omega : zs.length = 1 ∨ zs.length = 2 ∨ zs.length = 3) with e | e | e <;> rw [e] <;> simp
  · intro n h1 h2 h3
    cases hq : isB (zs.take n) with
    | false => rfl
    | true =>
      exfalso
      obtain ⟨hs, hp⟩ := is_some hq
      have := full_put _ hs (zs.drop n)
      rw [hp, List.take_append_drop, hf] at this
      cases this

set_option maxRecDepth 100000 in
theorem rdL_nil : rdL [] = [] := rfl
set_option maxRecDepth 100000 in
/-- What is read, scalar by scalar. -/
theorem all_step (zs : List Nat) (h8 : ∀ z ∈ zs, z < 256) (h0 : zs ≠ []) : allL zs = (firstF zs).1 :: allL (zs.drop (firstF zs).2) := by
  cases hf : fullB zs with
  | true =>
    have hb := firstF_bd zs (fullB_pos hf)
    unfold allL
    rw [rdL_yes zs hf]
    have es : sumB (firstF zs :: rdL (zs.drop (firstF zs).2)) = (firstF zs).2 + sumB (rdL (zs.drop (firstF zs).2)) := by simp [sumB]
    rw [es, List.map_cons, List.cons_append, List.length_drop]
    congr 2
    by_cases hh : sumB (rdL (zs.drop (firstF zs).2)) < zs.length - (firstF zs).2
    · rw [if_pos hh, if_pos (by omega)]
    · rw [if_neg hh, if_neg (by omega)]
  | false =>
    have hp := List.length_pos_iff.2 h0
    rw [first_wait zs h8 h0 hf]
    dsimp only
    rw [List.drop_length]
    unfold allL
    rw [rdL_no zs hf, rdL_nil]
    simp [sumB, hp]
set_option maxRecDepth 100000 in
theorem allL_nil_u : allL [] = [] := rfl

/-- How many bytes wait. -/
def waitL (zs : List Nat) : Nat := zs.length - sumB (rdL zs)
set_option maxRecDepth 100000 in
theorem wait_yes (zs : List Nat) (hf : fullB zs = true) : waitL zs = waitL (zs.drop (firstF zs).2) := by
  unfold waitL
  rw [rdL_yes zs hf]
  have es : sumB (firstF zs :: rdL (zs.drop (firstF zs).2)) = (firstF zs).2 + sumB (rdL (zs.drop (firstF zs).2)) := by simp [sumB]
  rw [es, List.length_drop]
  omega
set_option maxRecDepth 100000 in
theorem wait_no (zs : List Nat) (hf : fullB zs = false) : waitL zs = zs.length := by
  unfold waitL
  rw [rdL_no zs hf]
  simp [sumB]

set_option maxRecDepth 100000 in
theorem beg_take (zs : List Nat) (m : Nat) (hm : begF zs ≤ m) : begF (zs.take m) = begF zs := by
  have h1 : 1 ≤ begF zs := by unfold begF; (repeat' split) <;> omega
  rw [← begF_is (zs.take m) (begF zs) h1]
  · intro j hj1 hj2
    rw [List.take_take, Nat.min_eq_left (by omega), List.length_take]
    have : ∀ j, 1 ≤ j → j < begF zs → j < zs.length ∧ fullB (zs.take (j + 1)) = false := fun j hj1 hj2 => by
      unfold begF at hj2
      split at hj2
      · omega
      rename_i a
      have a1 : ¬ zs.length ≤ 1 := fun h => a (.inl h)
      have a2 : fullB (zs.take 2) = false := by simpa using fun h => a (.inr h)
      split at hj2
      · obtain rfl : j = 1 := by omega
        exact ⟨by omega, a2⟩
      rename_i b
      have b1 : ¬ zs.length ≤ 2 := fun h => b (.inl h)
      have b2 : fullB (zs.take 3) = false := by simpa using fun h => b (.inr h)
      split at hj2
      · rcases (by omega : j = 1 ∨ j = 2) with rfl | rfl
        · exact ⟨by omega, a2⟩
        · exact ⟨by omega, b2⟩
      rename_i c
      have c1 : ¬ zs.length ≤ 3 := fun h => c (.inl h)
      have c2 : fullB (zs.take 4) = false := by simpa using fun h => c (.inr h)
      rcases (by omega : j = 1 ∨ j = 2 ∨ j = 3) with rfl | rfl | rfl
      · exact ⟨by omega, a2⟩
      · exact ⟨by omega, b2⟩
      · exact ⟨by omega, c2⟩
    have := this j hj1 hj2
    exact ⟨by omega, this.2⟩
  · rw [List.length_take]
    rcases Nat.lt_or_ge (begF zs) m with h | h
    · rw [List.take_take, Nat.min_eq_left (show begF zs + 1 ≤ m by omega)]
      have : zs.length ≤ begF zs ∨ fullB (zs.take (begF zs + 1)) = true := by
        unfold begF
        split
        · rename_i a; exact a
        split
        · rename_i a; exact a
        split
        · rename_i a; exact a
        rename_i c
        exact absurd (full4 zs (Nat.lt_of_not_le fun h => c (.inl h))) fun h => c (.inr h)
      rcases this with h' | h'
      · exact .inl (by omega)
      · exact .inr h'
    · exact .inl (by omega)
set_option maxRecDepth 100000 in
/-- What is read first hangs on no byte behind it. -/
theorem first_take (zs : List Nat) (h8 : ∀ z ∈ zs, z < 256) (h0 : zs ≠ []) (m : Nat) (hm : (firstF zs).2 ≤ m) : firstF (zs.take m) = firstF zs := by
  rcases Classical.em (∃ n, 1 ≤ n ∧ n ≤ 4 ∧ n ≤ zs.length ∧ isB (zs.take n) = true) with ⟨n, h1, h2, h3, h4⟩ | hno
  · have e := first_is zs n h3 h4
    rw [e] at hm ⊢
    have := first_is (zs.take m) n (by rw [List.length_take]; dsimp only at hm; omega) (by rw [List.take_take, Nat.min_eq_left hm]; exact h4)
    rw [this, List.take_take, Nat.min_eq_left hm]
  · have hn : ∀ n, 1 ≤ n → n ≤ 4 → n ≤ zs.length → isB (zs.take n) = false := fun n h1 h2 h3 => by
      cases hq : isB (zs.take n) with
      | false => rfl
      | true => exact absurd ⟨n, h1, h2, h3, hq⟩ hno
    have e := first_not zs h8 h0 hn
    rw [e] at hm ⊢
    dsimp only at hm
    have hb1 : 1 ≤ begF zs := by unfold begF; (repeat' split) <;> omega
    have hz := List.length_pos_iff.2 h0
    rw [first_not (zs.take m) (fun z hz => h8 z (List.mem_of_mem_take hz)) (by
      intro h
      have := congrArg List.length h
      rw [List.length_take, List.length_nil] at this
      omega), beg_take zs m hm]
    intro n h1 h2 h3
    rw [List.length_take] at h3
    rw [List.take_take, Nat.min_eq_left (by omega)]
    exact hn n h1 h2 (by omega)
set_option maxRecDepth 100000 in
/-- What is settled is what all of it is read as. -/
theorem all_settled : ∀ (n : Nat) (zs : List Nat), zs.length ≤ n → (∀ z ∈ zs, z < 256) → allL (zs.take (sumB (rdL zs))) = (rdL zs).map (·.1)
  | 0, zs, hn, _ => by
    have : zs = [] := List.length_eq_zero_iff.1 (by omega)
    subst this
    rfl
  | n + 1, zs, hn, h8 => by
    cases hf : fullB zs with
    | false => rw [rdL_no zs hf]; rfl
    | true =>
      have hp := fullB_pos hf
      have hb := firstF_bd zs hp
      have hz : zs ≠ [] := List.length_pos_iff.1 hp
      rw [rdL_yes zs hf]
      have es : sumB (firstF zs :: rdL (zs.drop (firstF zs).2)) = (firstF zs).2 + sumB (rdL (zs.drop (firstF zs).2)) := by simp [sumB]
      rw [es]
      have ih := all_settled n (zs.drop (firstF zs).2) (by rw [List.length_drop]; omega) (fun z hz => h8 z (List.mem_of_mem_drop hz))
      have ht := first_take zs h8 hz ((firstF zs).2 + sumB (rdL (zs.drop (firstF zs).2))) (by omega)
      rw [all_step _ (fun z hz => h8 z (List.mem_of_mem_take hz)) (by
        intro h
        have := congrArg List.length h
        rw [List.length_take, List.length_nil] at this
        omega), ht, List.map_cons, ← ih, List.drop_take, Nat.add_sub_cancel_left]

end Go.Proofs.YtoiekhjmfoodiaaDoor

namespace Go.Proofs.YtoiekhjmfoodiaaDoor
open Go.RowKit Go.Shelf

set_option maxRecDepth 100000 in
theorem Tryd.infoByte : (Tryd.prog.info? 5).map (fun i => (i.zero, i.size, i.bytes)) = some (some (.int .u8 0), 1, 1) := by kernel_rfl
def encB (z : Nat) : Value := .int .u8 (z : Nat)
/-- Bytes, filled up to a number of them. -/
def padL (zs : List Nat) (m x : Nat) : List Nat := zs ++ List.replicate (m - zs.length) x
set_option maxRecDepth 100000 in
theorem padL_len (zs : List Nat) (m x : Nat) (h : zs.length ≤ m) : (padL zs m x).length = m := by unfold padL; simp; omega
set_option maxRecDepth 100000 in
theorem padL_0 (zs : List Nat) (x : Nat) : padL zs zs.length x = zs := by unfold padL; simp
set_option maxRecDepth 100000 in
theorem padL_succ (zs : List Nat) (m x : Nat) (h : zs.length ≤ m) : padL zs (m + 1) x = padL zs m x ++ [x] := by
  unfold padL
  rw [show m + 1 - zs.length = (m - zs.length) + 1 by omega, List.replicate_succ', ← List.append_assoc]
def fromZ (m : Nat) : Int := if m = 2 then 128 else if m = 3 then 2048 else 65536
def toZ (m : Nat) : Int := if m = 2 then 2047 else if m = 3 then 65535 else 1114111
def begTest (lo hi f t : Int) : Bool := decide (0 ≤ lo ∧ 0 ≤ hi ∧ max lo f ≤ min hi t ∧ ¬ (55296 ≤ max lo f ∧ min hi t ≤ 57343))
def begAt (m : Nat) (zs : List Nat) : Bool := begTest (numZ (padL zs m 128)) (numZ (padL zs m 191)) (fromZ m) (toZ m)
/-- Do a scalar's bytes begin so, and go on? -/
def begB_u (zs : List Nat) : Bool := (List.range 5).any fun m => decide (0 < zs.length ∧ zs.length < m) && begAt m zs

set_option maxRecDepth 100000 in
theorem BS.of_own {w : World} {base n c : Nat} {A : Option Addr} {zs : List Nat} (hz : ∀ z ∈ zs, z < 256) (h : w.ownsRow base 5 1 (.slice A n c) n (zs.map encB)) : BS w w.heap.size A zs := ⟨hz, fun hn => by
  have hl : zs.length = n := by have := h.1; simpa using this
  obtain ⟨A', c', e, hA⟩ := own_form h
  injection e with e1 _ _
  subst e1
  obtain ⟨g, rfl⟩ := hA (by rw [← hl]; exact List.length_pos_iff.2 hn)
  refine ⟨g, 0, rfl, (h.lt g rfl).2, fun k hk => ?_⟩
  rw [Nat.zero_add, h.cellAt k (by omega), List.getElem?_map, List.getElem?_eq_getElem hk]
  rfl⟩
set_option maxRecDepth 100000 in
theorem bs_news {w : World} {b off : Nat} {zs : List Nat} (hc : ∀ k, k < zs.length → w.cell? ⟨b, off + k, none⟩ = some (.int .u8 (zs[k]?.getD 0))) : ∀ (j : Nat) (u : Value), (zs.map encB)[j]? = some u → w.cell? ((⟨b, off, none⟩ : Addr).add j) = some u := fun j u h => by
  rw [show (⟨b, off, none⟩ : Addr).add j = ⟨b, off + j, none⟩ by unfold Addr.add; split <;> simp_all]
  have hj : j < zs.length := by have := (List.getElem?_eq_some_iff.1 h).1; simpa using this
  rw [hc j hj]
  rw [List.getElem?_map, List.getElem?_eq_getElem hj] at h
  rw [List.getElem?_eq_getElem hj]
  exact h
set_option maxRecDepth 100000 in
theorem encB_one (zs : List Nat) : ∀ u ∈ zs.map encB, u.oneCell' = true := by
  intro u hu
  obtain ⟨z, _, rfl⟩ := List.mem_map.1 hu
  rfl

set_option maxRecDepth 100000 in
theorem side_row {wr w6 : World} {B a4 a5 k5 j g k : Nat} {ys : List Value} {o : Obj} (O5 : wr.ownsRow B 5 1 (.slice (some ⟨a5, 0, none⟩) j k5) k ys) (NE : a4 ≠ a5) (hg : (wr.alloc o).grownBy w6 (some a4)) (hor : some a4 = some g ∨ g = (wr.alloc o).heap.size) :
    w6.ownsRow B 5 1 (.slice (some ⟨a5, 0, none⟩) j k5) k ys ∧ g ≠ a5 := by
  refine ⟨(O5.alloc o).kept hg (.inr (by simp only [Value.ownBlock, ne_eq, Option.some.injEq]; exact fun e => NE e.symm)), ?_⟩
  have := (O5.lt a5 rfl).2
  rcases hor with h | h
  · have : a4 = g := by simpa using h
    omega
  · simp at h
    omega

set_option maxRecDepth 100000 in
theorem from_cell (m : Nat) (h : m = 2 ∨ m = 3 ∨ m = 4) (W : World) : (W.alloc (.cells #[.int .i32 0, .int .i32 0, .int .i32 128, .int .i32 2048, .int .i32 65536] 21)).cell? ⟨W.heap.size, m, none⟩ = some (.int .i32 (fromZ m)) := by
  refine (cell_of_row _ _ _ _ _ _ (heap_alloc_new W _)).trans ?_
  rcases h with rfl | rfl | rfl <;> rfl
set_option maxRecDepth 100000 in
theorem to_cell (m : Nat) (h : m = 2 ∨ m = 3 ∨ m = 4) (W : World) : (W.alloc (.cells #[.int .i32 0, .int .i32 0, .int .i32 2047, .int .i32 65535, .int .i32 1114111] 21)).cell? ⟨W.heap.size, m, none⟩ = some (.int .i32 (toZ m)) := by
  refine (cell_of_row _ _ _ _ _ _ (heap_alloc_new W _)).trans ?_
  rcases h with rfl | rfl | rfl <;> rfl
set_option maxRecDepth 100000 in
theorem from_cell' (m : Nat) (h : m = 2 ∨ m = 3 ∨ m = 4) (W : World) (o : Obj) : ((W.alloc o).alloc (.cells #[.int .i32 0, .int .i32 0, .int .i32 128, .int .i32 2048, .int .i32 65536] 21)).cell? ⟨W.heap.size + 1, m, none⟩ = some (.int .i32 (fromZ m)) := by
  have := from_cell m h (W.alloc o)
  simpa using this
set_option maxRecDepth 100000 in
theorem to_cell' (m : Nat) (h : m = 2 ∨ m = 3 ∨ m = 4) (W : World) (o : Obj) : ((W.alloc o).alloc (.cells #[.int .i32 0, .int .i32 0, .int .i32 2047, .int .i32 65535, .int .i32 1114111] 21)).cell? ⟨W.heap.size + 1, m, none⟩ = some (.int .i32 (toZ m)) := by
  have := to_cell m h (W.alloc o)
  simpa using this
set_option maxRecDepth 100000 in
theorem from_cell'' (m : Nat) (h : m = 2 ∨ m = 3 ∨ m = 4) (W : World) (o : Obj) : ((W.alloc (.cells #[.int .i32 0, .int .i32 0, .int .i32 128, .int .i32 2048, .int .i32 65536] 21)).alloc o).cell? ⟨W.heap.size, m, none⟩ = some (.int .i32 (fromZ m)) :=
  (((Below.refl _ _).alloc (Nat.le_refl _) o).cell (p := ⟨W.heap.size, m, none⟩) (by simp)).trans (from_cell m h W)
set_option maxRecDepth 100000 in
theorem to_cell'' (m : Nat) (h : m = 2 ∨ m = 3 ∨ m = 4) (W : World) (o : Obj) : ((W.alloc (.cells #[.int .i32 0, .int .i32 0, .int .i32 2047, .int .i32 65535, .int .i32 1114111] 21)).alloc o).cell? ⟨W.heap.size, m, none⟩ = some (.int .i32 (toZ m)) :=
  (((Below.refl _ _).alloc (Nat.le_refl _) o).cell (p := ⟨W.heap.size, m, none⟩) (by simp)).trans (to_cell m h W)
set_option maxRecDepth 100000 in
theorem pad_lt {zs : List Nat} (hz : ∀ z ∈ zs, z < 256) (m x : Nat) (hx : x < 256) : ∀ z ∈ padL zs m x, z < 256 := by
  intro z h
  rcases List.mem_append.1 h with h | h
  · exact hz z h
  · have := List.eq_of_mem_replicate h; omega

set_option maxRecDepth 100000 in
set_option maxHeartbeats 4000000 in
theorem begins_any (b off : Nat) (zs : List Nat) (n c : Nat) (hn : n = zs.length) (h0 : 0 < n) (h3 : n ≤ 3) (w : World) (hR : BS w w.heap.size (some ⟨b, off, none⟩) zs) :
    Calls Tryd.prog 81 #[.slice (some ⟨b, off, none⟩) n c] w fun e w' => e = .returned (.bool (begB_u zs)) ∧ Below w.heap.size w w' := by
  obtain ⟨i0, hi, hz0, hz1, hz2⟩ := info_parts Tryd.infoByte
  have HR := Lib.hid hR
  have HN := Lib.hid hn
  have hnl : (0 : Int) < n := by omega
  clear hR hn
  go_enter Tryd.func81, Tryd.ntmps81
  go_wp2
  go_loopw [3] (fun i wr => ∃ m : Nat, n < m ∧ m ≤ 5 ∧ i = .int .i64 m ∧ Hid (∀ j, n < j → j < m → begAt j zs = false) ∧ Hid (Below w.heap.size w wr)) (fun i _ => 5 - (intOf i).toNat)
  case atStart => exact ⟨n + 1, by omega, by omega, by go_num, Lib.hid (fun j h1 h2 => by omega), Lib.hid (Below.refl _ _)⟩
  case round =>
    obtain ⟨m, hm0, hm5, rfl, HK, HB⟩ := hrel
    by_cases hm4 : m ≤ 4
    · have hm1 : (m : Int) ≤ 4 := by omega
      have hn1 : 0 + n ≤ maxLen := by unfold maxLen; omega
      have hn2 : (0 + n) * 1 ≤ 140737488355328 := by omega
      have hbs := HB.out.size
      have HNEW : Hid (∀ W, Below w.heap.size w W → ∀ (j : Nat) (u : Value), (zs.map encB)[j]? = some u → W.cell? ((⟨b, off, none⟩ : Addr).add j) = some u) := Lib.hid fun W hW => by
        obtain ⟨b', off', e, _, hc⟩ := (HR.out.below hW).2 (by rintro rfl; have := HN.out; simp at this; omega)
        obtain ⟨rfl, rfl⟩ : b = b' ∧ off = off' := by simpa using e
        exact bs_news hc
      go_wp2_with (first
        | (at_builtin; refine wpList_append_lies _ rfl (.tmp 22) (.tmp 23) 54 rfl w.heap.size 5 i0 (.int .u8 0) 1 1 Tryd.underlying54 hi hz0 hz1 hz2 rfl (by decide) (.slice none 0 0) 0 [] rfl (World.ownsRow_nil _ _ _ _) ⟨b, off, none⟩ n c (zs.map encB) rfl (by rw [List.length_map, Nat.mul_one]; exact HN.out.symm) (HNEW.out _ HB.out) (encB_one zs) h0 hn1 hn2 hbs _ rfl ?_; intro g4 c4 w4 hown4 hgrow4 _ hlt4; have HB4 : Hid (Below w.heap.size w w4) := Lib.hid (HB.out.grown hgrow4 hbs (fun k e => by cases e)); simp only [Nat.zero_add, List.nil_append] at hown4; have HO4 := Lib.hid hown4; clear hown4 hgrow4)
        | (at_builtin; go_must (refine wpList_append_lies _ rfl (.tmp 25) (.tmp 26) 54 rfl w.heap.size 5 i0 (.int .u8 0) 1 1 Tryd.underlying54 hi hz0 hz1 hz2 rfl (by decide) (.slice none 0 0) 0 [] rfl (World.ownsRow_nil _ _ _ _) ⟨b, off, none⟩ n c (zs.map encB) rfl (by rw [List.length_map, Nat.mul_one]; exact HN.out.symm) (HNEW.out _ HB4.out) (encB_one zs) h0 hn1 hn2 HB4.out.size _ rfl ?_; intro g5 c5 w5 hown5 hgrow5 hor5 hlt5; have HB5 : Hid (Below w.heap.size w w5) := Lib.hid (HB4.out.grown hgrow5 HB4.out.size (fun k e => by cases e)); simp only [Nat.zero_add, List.nil_append] at hown5; have HO5 := Lib.hid hown5; have HO45 : Hid (w5.ownsRow w.heap.size 5 1 (.slice (some ⟨g4, 0, none⟩) n c4) n (zs.map encB)) := Lib.hid (HO4.out.kept hgrow5 (.inr (by simp [Value.ownBlock]))); have HNE : Hid (g4 ≠ g5) := Lib.hid (by (rcases hor5 with h | h; (cases h); omega)); clear hown5 hgrow5 hor5)))
      obtain ⟨wx, rfl⟩ : ∃ wx : World, wx = w5 := ⟨_, rfl⟩
      go_loopw [4, 5] (fun v4 v5 W => ∃ (j a4 k4 a5 k5 : Nat), n ≤ j ∧ j ≤ m ∧ v4 = .slice (some ⟨a4, 0, none⟩) j k4 ∧ v5 = .slice (some ⟨a5, 0, none⟩) j k5 ∧ Hid (W.ownsRow w.heap.size 5 1 (.slice (some ⟨a4, 0, none⟩) j k4) j ((padL zs j 128).map encB)) ∧ Hid (W.ownsRow w.heap.size 5 1 (.slice (some ⟨a5, 0, none⟩) j k5) j ((padL zs j 191).map encB)) ∧ Hid (a4 ≠ a5) ∧ Hid (Below w.heap.size w W)) (fun v4 _ _ => m - (match v4 with | .slice _ j _ => j | _ => 0))
      case atStart => exact ⟨n, g4, c4, g5, c5, Nat.le_refl _, by omega, rfl, rfl, Lib.hid (by rw [HN.out, padL_0, ← HN.out]; exact HO45.out), Lib.hid (by rw [HN.out, padL_0, ← HN.out]; exact HO5.out), HNE, HB5⟩
      case round =>
        obtain ⟨j, a4, k4, a5, k5, hnj, hjm, rfl, rfl, O4, O5, NE, HBW⟩ := hrel
        by_cases hlt : j < m
        · have hji : (j : Int) < m := by omega
          have hj1 : j + 1 ≤ maxLen := by unfold maxLen; omega
          have hj2 : (j + 1) * 1 ≤ 140737488355328 := by omega
          have HBS : Hid (∀ (W : World) (o : Obj), Below w.heap.size w W → w.heap.size ≤ (W.alloc o).heap.size) := Lib.hid fun W o hW => by have := hW.size; simp; omega
          go_wp2_with (first
            | (at_builtin; refine wpList_append_lies _ rfl (.tmp 32) (.tmp 33) 54 rfl w.heap.size 5 i0 (.int .u8 0) 1 1 Tryd.underlying54 hi hz0 hz1 hz2 rfl (by decide) (.slice (some ⟨a4, 0, none⟩) j k4) j ((padL zs j 128).map encB) rfl (O4.out.alloc _) ⟨wr.heap.size, 0, none⟩ 1 1 [.int .u8 128] rfl rfl (cell_one_new _ _ _) (by simp [Value.oneCell']) (by decide) hj1 hj2 (HBS.out _ _ HBW.out) _ rfl ?_; intro g6 c6 w6 hown6 hgrow6 hor6 hlt6; have HBX : Hid (Below w.heap.size w w6) := Lib.hid ((HBW.out.alloc HBW.out.size _).grown hgrow6 (HBS.out _ _ HBW.out) (fun k e => (O4.out.lt k e).1)); obtain ⟨hO5, hne6⟩ := side_row O5.out NE.out hgrow6 hor6; have O6 := Lib.hid hown6; have O5' := Lib.hid hO5; have NE6 := Lib.hid hne6; clear hown6 hgrow6 hor6 hO5 hne6)
            | (at_builtin; go_must (refine wpList_append_lies _ rfl (.tmp 35) (.tmp 36) 54 rfl w.heap.size 5 i0 (.int .u8 0) 1 1 Tryd.underlying54 hi hz0 hz1 hz2 rfl (by decide) (.slice (some ⟨a5, 0, none⟩) j k5) j ((padL zs j 191).map encB) rfl (O5'.out.alloc _) ⟨w6.heap.size, 0, none⟩ 1 1 [.int .u8 191] rfl rfl (cell_one_new _ _ _) (by simp [Value.oneCell']) (by decide) hj1 hj2 (HBS.out _ _ HBX.out) _ rfl ?_; intro g7 c7 w7 hown7 hgrow7 hor7 hlt7; have HBY : Hid (Below w.heap.size w w7) := Lib.hid ((HBX.out.alloc HBX.out.size _).grown hgrow7 (HBS.out _ _ HBX.out) (fun k e => (O5'.out.lt k e).1)); obtain ⟨hO6, hne7⟩ := side_row O6.out NE6.out.symm hgrow7 hor7; have O7 := Lib.hid hown7; have O6' := Lib.hid hO6; have NE7 := Lib.hid hne7; clear hown7 hgrow7 hor7 hO6 hne7)))
          go_roundw
          case rel => exact ⟨j + 1, g6, c6, g7, c7, by omega, by omega, rfl, rfl, Lib.hid (by rw [padL_succ zs j 128 (by rw [← HN.out]; exact hnj), List.map_append]; exact O6'.out), Lib.hid (by rw [padL_succ zs j 191 (by rw [← HN.out]; exact hnj), List.map_append]; exact O7.out), Lib.hid NE7.out.symm, HBY⟩
          case measure => simp; omega
        · obtain rfl : j = m := by omega
          have hmm : j = 2 ∨ j = 3 ∨ j = 4 := by omega
          have hz8 := HR.out.1
          have hl4 : (padL zs j 128).length = j := padL_len zs j 128 (by rw [← HN.out]; exact hnj)
          have hl5 : (padL zs j 191).length = j := padL_len zs j 191 (by rw [← HN.out]; exact hnj)
          have hN4 := number_any (some ⟨a4, 0, none⟩) (padL zs j 128) j k4 hl4.symm wr (BS.of_own (pad_lt hz8 _ _ (by decide)) O4.out)
          have HN5 : Hid (∀ W, Below wr.heap.size wr W → Calls Tryd.prog 80 #[.slice (some ⟨a5, 0, none⟩) j k5] W fun e w' => e = .returned (.int .i32 (numZ (padL zs j 191))) ∧ Below W.heap.size W w') := Lib.hid fun W hW =>
            number_any (some ⟨a5, 0, none⟩) (padL zs j 191) j k5 hl5.symm W (((BS.of_own (pad_lt hz8 _ _ (by decide)) O5.out).below hW).more hW.size)
          have HAT : Hid (begAt j zs = begTest (numZ (padL zs j 128)) (numZ (padL zs j 191)) (fromZ j) (toZ j)) := Lib.hid rfl
          have HF := Lib.hid (And.intro (from_cell j hmm) (And.intro (from_cell' j hmm) (from_cell'' j hmm)))
          have HT := Lib.hid (And.intro (to_cell j hmm) (And.intro (to_cell' j hmm) (to_cell'' j hmm)))
          have HMM := Lib.hid hmm
          have HKN : Hid (begAt j zs = false → ∀ i, n < i → i < j + 1 → begAt i zs = false) := Lib.hid fun h i h1 h2 => by
            rcases Nat.lt_or_ge i j with h3 | h3
            · exact HK.out i h1 h3
            · obtain rfl : i = j := by omega
              exact h
          have HKY : Hid (begAt j zs = true → begB_u zs = true) := Lib.hid fun h => List.any_eq_true.2 ⟨j, List.mem_range.2 (by omega), by rw [h, decide_eq_true (by rw [← HN.out]; omega)]; rfl⟩
          clear hl4 hl5 hz8 hmm O4 O5 HK
          generalize numZ (padL zs j 128) = lo at *
          generalize numZ (padL zs j 191) = hi' at *
          by_cases hlo : lo < 0
          · have HX := Lib.hid (HKN.out (HAT.out.trans (decide_eq_false (by omega))))
            go_wp2_with (first | (go_at_call 80; (with_reducible refine hN4.mono ?_); clear hN4; rintro e w8 ⟨rfl, hb8⟩) | (go_at_call 80; (with_reducible refine (HN5.out _ hb8).mono ?_); rintro e w9 ⟨rfl, hb9⟩))
            go_roundw
            case rel => exact ⟨j + 1, by omega, by omega, by go_num, HX, Lib.hid (bel0 (bel0 HBW.out hb8) hb9)⟩
            case measure => simp [intOf]; omega
          · by_cases hhi : hi' < 0
            · have HX := Lib.hid (HKN.out (HAT.out.trans (decide_eq_false (by omega))))
              go_wp2_with (first | (go_at_call 80; (with_reducible refine hN4.mono ?_); clear hN4; rintro e w8 ⟨rfl, hb8⟩) | (go_at_call 80; (with_reducible refine (HN5.out _ hb8).mono ?_); rintro e w9 ⟨rfl, hb9⟩))
              go_roundw
              case rel => exact ⟨j + 1, by omega, by omega, by go_num, HX, Lib.hid (bel0 (bel0 HBW.out hb8) hb9)⟩
              case measure => simp [intOf]; omega
            · have hj5 : (j : Int) < 5 := by omega
              obtain ⟨hf, hf', hf''⟩ := HF.out
              obtain ⟨ht, ht', ht''⟩ := HT.out
              go_wp2_with (first | (go_at_call 80; (with_reducible refine hN4.mono ?_); clear hN4; rintro e w8 ⟨rfl, hb8⟩) | (go_at_call 80; (with_reducible refine (HN5.out _ hb8).mono ?_); rintro e w9 ⟨rfl, hb9⟩))
              go_region
              all_goals
                go_wp2
                all_goals first
                  | (have HX := Lib.hid (HKN.out (HAT.out.trans (decide_eq_false (by first | omega | (have hb : (!decide (min hi' (toZ j) ≤ 57343)) = false := (by assumption); simp at hb; omega)))))
                     go_roundw
                     case rel => exact ⟨j + 1, by omega, by omega, by go_num, HX, Lib.hid (((bel0 (bel0 HBW.out hb8) hb9).alloc (bel0 (bel0 HBW.out hb8) hb9).size _).alloc (by have := (bel0 (bel0 HBW.out hb8) hb9).size; simp; omega) _).drew⟩
                     case measure => simp [intOf]; omega)
                  | (have HX := Lib.hid (HKY.out (HAT.out.trans (decide_eq_true (by first | omega | (have hb : (!decide (min hi' (toZ j) ≤ 57343)) = true := (by assumption); simp at hb; omega)))))
                     go_ret
                     exact ⟨by rw [HX.out]; rfl, (((bel0 (bel0 HBW.out hb8) hb9).alloc (bel0 (bel0 HBW.out hb8) hb9).size _).alloc (by have := (bel0 (bel0 HBW.out hb8) hb9).size; simp; omega) _).drew⟩)
    · obtain rfl : m = 5 := by omega
      have HF : Hid (begB_u zs = false) := Lib.hid (List.any_eq_false.2 fun i hi' => by
        have h5 := List.mem_range.1 hi'
        by_cases hh : n < i
        · rw [HK.out i hh h5]; simp
        · rw [decide_eq_false (by rw [← HN.out]; omega)]; simp)
      go_wp2
      go_ret
      exact ⟨by rw [HF.out]; rfl, HB.out⟩

end Go.Proofs.YtoiekhjmfoodiaaDoor

namespace Go.Proofs.YtoiekhjmfoodiaaDoor
open Go.RowKit

set_option maxRecDepth 100000 in
theorem beg_1 : ∀ a, a < 256 → begB_u [a] = !fullB [a] := by decide +kernel

set_option maxRecDepth 100000 in
theorem firstT_lo {a : Nat} (h : a < 194) : Lib.firstT a % 8 ≤ 1 := by unfold Lib.firstT; (repeat' split) <;> omega
set_option maxRecDepth 100000 in
theorem firstT_hi {a : Nat} (h : 244 < a) : Lib.firstT a % 8 ≤ 1 := by unfold Lib.firstT; (repeat' split) <;> omega
set_option maxRecDepth 100000 in
theorem firstT_2 {a : Nat} (h : 194 ≤ a) (h' : a < 224) : Lib.firstT a = 2 := by unfold Lib.firstT; (repeat' split) <;> omega
set_option maxRecDepth 100000 in
theorem firstT_3 {a : Nat} (h : 225 ≤ a) (h' : a < 240) (hn : a ≠ 237) : Lib.firstT a = 3 := by unfold Lib.firstT; (repeat' split) <;> omega
set_option maxRecDepth 100000 in
theorem firstT_4 {a : Nat} (h : 241 ≤ a) (h' : a < 244) : Lib.firstT a = 4 := by unfold Lib.firstT; (repeat' split) <;> omega

set_option maxRecDepth 100000 in
theorem begAt_3 (a b : Nat) : begAt 3 [a, b] = begTest (if 224 ≤ a ∧ a < 240 ∧ 128 ≤ b ∧ b ≤ 191 then 4096 * ((a : Int) - 224) + 64 * ((b : Int) - 128) else -1) (if 224 ≤ a ∧ a < 240 ∧ 128 ≤ b ∧ b ≤ 191 then 4096 * ((a : Int) - 224) + 64 * ((b : Int) - 128) + 63 else -1) 2048 65535 := by
  unfold begAt
  rw [show padL [a, b] 3 128 = [a, b, 128] from rfl, show padL [a, b] 3 191 = [a, b, 191] from rfl, numZ_3, numZ_3]
  congr 1 <;> (split <;> split <;> omega)
set_option maxRecDepth 100000 in
theorem begAt_4 (a b : Nat) : begAt 4 [a, b] = begTest (if 240 ≤ a ∧ a < 248 ∧ 128 ≤ b ∧ b ≤ 191 then 262144 * ((a : Int) - 240) + 4096 * ((b : Int) - 128) else -1) (if 240 ≤ a ∧ a < 248 ∧ 128 ≤ b ∧ b ≤ 191 then 262144 * ((a : Int) - 240) + 4096 * ((b : Int) - 128) + 4095 else -1) 65536 1114111 := by
  unfold begAt
  rw [show padL [a, b] 4 128 = [a, b, 128, 128] from rfl, show padL [a, b] 4 191 = [a, b, 191, 191] from rfl, numZ_4, numZ_4]
  congr 1 <;> (split <;> split <;> omega)
set_option maxRecDepth 100000 in
theorem begAt_43 (a b c : Nat) : begAt 4 [a, b, c] = begTest (if 240 ≤ a ∧ a < 248 ∧ 128 ≤ b ∧ b ≤ 191 ∧ 128 ≤ c ∧ c ≤ 191 then 262144 * ((a : Int) - 240) + 4096 * ((b : Int) - 128) + 64 * ((c : Int) - 128) else -1) (if 240 ≤ a ∧ a < 248 ∧ 128 ≤ b ∧ b ≤ 191 ∧ 128 ≤ c ∧ c ≤ 191 then 262144 * ((a : Int) - 240) + 4096 * ((b : Int) - 128) + 64 * ((c : Int) - 128) + 63 else -1) 65536 1114111 := by
  unfold begAt
  rw [show padL [a, b, c] 4 128 = [a, b, c, 128] from rfl, show padL [a, b, c] 4 191 = [a, b, c, 191] from rfl, numZ_4, numZ_4]
  congr 1 <;> (split <;> split <;> omega)
set_option maxRecDepth 100000 in
theorem test_no {lo hi f t : Int} (h : lo < 0) : begTest lo hi f t = false := decide_eq_false (by omega)

set_option maxRecDepth 100000 in
/-- When two bytes are a beginning. -/
theorem full_ab (a b : Nat) : fullB [a, b] = decide (Lib.firstT a % 8 ≤ 2 ∨ b < Lib.accLo (Lib.firstT a / 16) ∨ Lib.accHi (Lib.firstT a / 16) < b) := by
  unfold fullB fullN fullX
  simp
set_option maxRecDepth 100000 in
theorem full_abc (a b c : Nat) : fullB [a, b, c] = decide (Lib.firstT a % 8 ≤ 3 ∨ (b < Lib.accLo (Lib.firstT a / 16) ∨ Lib.accHi (Lib.firstT a / 16) < b) ∨ (c < 128 ∨ 191 < c)) := by
  unfold fullB fullN fullX
  simp
set_option maxRecDepth 100000 in
theorem beg_2 (a b : Nat) (ha : a < 256) : begB_u [a, b] = !fullB [a, b] := by
  have e : begB_u [a, b] = (begAt 3 [a, b] || begAt 4 [a, b]) := by simp [begB_u, List.range_succ]
  rw [e, begAt_3, begAt_4, full_ab]
  rcases (by omega : a < 194 ∨ (194 ≤ a ∧ a < 224) ∨ a = 224 ∨ a = 237 ∨ (225 ≤ a ∧ a < 240 ∧ a ≠ 237) ∨ a = 240 ∨ a = 244 ∨ (241 ≤ a ∧ a < 244) ∨ 244 < a) with h | h | h | h | h | h | h | h | h
  · have := firstT_lo h
    rw [if_neg (by omega), if_neg (by omega), if_neg (by omega), if_neg (by omega), test_no (by decide), test_no (by decide), decide_eq_true (.inl (by omega))]; rfl
  · rw [firstT_2 h.1 h.2, if_neg (by omega), if_neg (by omega), if_neg (by omega), if_neg (by omega), test_no (by decide), test_no (by decide)]; rfl
  · subst h
    rw [show Lib.firstT 224 = 19 from rfl, if_neg (show ¬ (240 ≤ 224 ∧ 224 < 248 ∧ 128 ≤ b ∧ b ≤ 191) by omega), test_no (show (-1 : Int) < 0 by decide), Bool.or_false]
    rw [show Lib.accLo (19 / 16) = 160 from rfl, show Lib.accHi (19 / 16) = 191 from rfl, show 19 % 8 = 3 from rfl]
    by_cases hb : 128 ≤ b ∧ b ≤ 191
    · rw [if_pos (by omega), if_pos (by omega), ← decide_not]
      unfold begTest
      exact decide_eq_decide.2 (by omega)
    · rw [if_neg (by omega), test_no (by decide), decide_eq_true (by omega)]; rfl
  · subst h
    rw [show Lib.firstT 237 = 35 from rfl, if_neg (show ¬ (240 ≤ 237 ∧ 237 < 248 ∧ 128 ≤ b ∧ b ≤ 191) by omega), test_no (show (-1 : Int) < 0 by decide), Bool.or_false]
    rw [show Lib.accLo (35 / 16) = 128 from rfl, show Lib.accHi (35 / 16) = 159 from rfl, show 35 % 8 = 3 from rfl]
    by_cases hb : 128 ≤ b ∧ b ≤ 191
    · rw [if_pos (by omega), if_pos (by omega), ← decide_not]
      unfold begTest
      exact decide_eq_decide.2 (by omega)
    · rw [if_neg (by omega), test_no (by decide), decide_eq_true (by omega)]; rfl
  · rw [firstT_3 h.1 h.2.1 h.2.2, if_neg (show ¬ (240 ≤ a ∧ a < 248 ∧ 128 ≤ b ∧ b ≤ 191) by omega), test_no (show (-1 : Int) < 0 by decide), Bool.or_false]
    rw [show Lib.accLo (3 / 16) = 128 from rfl, show Lib.accHi (3 / 16) = 191 from rfl, show 3 % 8 = 3 from rfl]
    by_cases hb : 128 ≤ b ∧ b ≤ 191
    · rw [if_pos (by omega), if_pos (by omega), ← decide_not]
      unfold begTest
      exact decide_eq_decide.2 (by omega)
    · rw [if_neg (by omega), test_no (by decide), decide_eq_true (by omega)]; rfl
  · subst h
    rw [show Lib.firstT 240 = 52 from rfl, if_neg (show ¬ (224 ≤ 240 ∧ 240 < 240 ∧ 128 ≤ b ∧ b ≤ 191) by omega), test_no (show (-1 : Int) < 0 by decide), Bool.false_or]
    rw [show Lib.accLo (52 / 16) = 144 from rfl, show Lib.accHi (52 / 16) = 191 from rfl, show 52 % 8 = 4 from rfl]
    by_cases hb : 128 ≤ b ∧ b ≤ 191
    · rw [if_pos (by omega), if_pos (by omega), ← decide_not]
      unfold begTest
      exact decide_eq_decide.2 (by omega)
    · rw [if_neg (by omega), test_no (by decide), decide_eq_true (by omega)]; rfl
  · subst h
    rw [show Lib.firstT 244 = 68 from rfl, if_neg (show ¬ (224 ≤ 244 ∧ 244 < 240 ∧ 128 ≤ b ∧ b ≤ 191) by omega), test_no (show (-1 : Int) < 0 by decide), Bool.false_or]
    rw [show Lib.accLo (68 / 16) = 128 from rfl, show Lib.accHi (68 / 16) = 143 from rfl, show 68 % 8 = 4 from rfl]
    by_cases hb : 128 ≤ b ∧ b ≤ 191
    · rw [if_pos (by omega), if_pos (by omega), ← decide_not]
      unfold begTest
      exact decide_eq_decide.2 (by omega)
    · rw [if_neg (by omega), test_no (by decide), decide_eq_true (by omega)]; rfl
  · rw [firstT_4 h.1 h.2, if_neg (show ¬ (224 ≤ a ∧ a < 240 ∧ 128 ≤ b ∧ b ≤ 191) by omega), test_no (show (-1 : Int) < 0 by decide), Bool.false_or]
    rw [show Lib.accLo (4 / 16) = 128 from rfl, show Lib.accHi (4 / 16) = 191 from rfl, show 4 % 8 = 4 from rfl]
    by_cases hb : 128 ≤ b ∧ b ≤ 191
    · rw [if_pos (by omega), if_pos (by omega), ← decide_not]
      unfold begTest
      exact decide_eq_decide.2 (by omega)
    · rw [if_neg (by omega), test_no (by decide), decide_eq_true (by omega)]; rfl
  · have := firstT_hi h
    rw [if_neg (show ¬ (224 ≤ a ∧ a < 240 ∧ 128 ≤ b ∧ b ≤ 191) by omega), test_no (show (-1 : Int) < 0 by decide), Bool.false_or, decide_eq_true (show _ ∨ _ from .inl (by omega))]
    by_cases hb : 240 ≤ a ∧ a < 248 ∧ 128 ≤ b ∧ b ≤ 191
    · rw [if_pos hb, if_pos hb]
      unfold begTest
      exact decide_eq_false (by omega)
    · rw [if_neg hb, test_no (by decide)]; rfl
set_option maxRecDepth 100000 in
theorem beg_3 (a b c : Nat) (ha : a < 256) : begB_u [a, b, c] = !fullB [a, b, c] := by
  have e : begB_u [a, b, c] = begAt 4 [a, b, c] := by simp [begB_u, List.range_succ]
  rw [e, begAt_43, full_abc]
  by_cases hc : 128 ≤ c ∧ c ≤ 191
  · rcases (by omega : a < 194 ∨ (194 ≤ a ∧ a < 224) ∨ a = 224 ∨ a = 237 ∨ (225 ≤ a ∧ a < 240 ∧ a ≠ 237) ∨ a = 240 ∨ a = 244 ∨ (241 ≤ a ∧ a < 244) ∨ 244 < a) with h | h | h | h | h | h | h | h | h
    · have := firstT_lo h
      rw [if_neg (by omega), test_no (by decide), decide_eq_true (.inl (by omega))]; rfl
    · rw [firstT_2 h.1 h.2, if_neg (by omega), test_no (by decide)]; rfl
    · subst h
      rw [if_neg (by omega), test_no (by decide), decide_eq_true (.inl (by decide))]; rfl
    · subst h
      rw [if_neg (by omega), test_no (by decide), decide_eq_true (.inl (by decide))]; rfl
    · rw [firstT_3 h.1 h.2.1 h.2.2, if_neg (by omega), test_no (by decide)]; rfl
    · subst h
      rw [show Lib.firstT 240 = 52 from rfl, show Lib.accLo (52 / 16) = 144 from rfl, show Lib.accHi (52 / 16) = 191 from rfl, show 52 % 8 = 4 from rfl]
      by_cases hb : 128 ≤ b ∧ b ≤ 191
      · rw [if_pos (by omega), if_pos (by omega), ← decide_not]
        unfold begTest
        exact decide_eq_decide.2 (by omega)
      · rw [if_neg (by omega), test_no (by decide), decide_eq_true (by omega)]; rfl
    · subst h
      rw [show Lib.firstT 244 = 68 from rfl, show Lib.accLo (68 / 16) = 128 from rfl, show Lib.accHi (68 / 16) = 143 from rfl, show 68 % 8 = 4 from rfl]
      by_cases hb : 128 ≤ b ∧ b ≤ 191
      · rw [if_pos (by omega), if_pos (by omega), ← decide_not]
        unfold begTest
        exact decide_eq_decide.2 (by omega)
      · rw [if_neg (by omega), test_no (by decide), decide_eq_true (by omega)]; rfl
    · rw [firstT_4 h.1 h.2, show Lib.accLo (4 / 16) = 128 from rfl, show Lib.accHi (4 / 16) = 191 from rfl, show 4 % 8 = 4 from rfl]
      by_cases hb : 128 ≤ b ∧ b ≤ 191
      · rw [if_pos (by omega), if_pos (by omega), ← decide_not]
        unfold begTest
        exact decide_eq_decide.2 (by omega)
      · rw [if_neg (by omega), test_no (by decide), decide_eq_true (by omega)]; rfl
    · have := firstT_hi h
      rw [decide_eq_true (show _ ∨ _ from .inl (by omega))]
      by_cases hb : 240 ≤ a ∧ a < 248 ∧ 128 ≤ b ∧ b ≤ 191 ∧ 128 ≤ c ∧ c ≤ 191
      · rw [if_pos hb, if_pos hb]
        unfold begTest
        exact decide_eq_false (by omega)
      · rw [if_neg hb, test_no (by decide)]; rfl
  · rw [if_neg (by omega), test_no (by decide), decide_eq_true (show _ ∨ _ ∨ _ from .inr (.inr (by omega)))]; rfl
set_option maxRecDepth 100000 in
/-- The document's Begins. -/
theorem beg_full (zs : List Nat) (h8 : ∀ z ∈ zs, z < 256) (h0 : zs ≠ []) : begB_u zs = !fullB zs := by
  match zs, h0, h8 with
  | [a], _, h8 => exact beg_1 a (h8 a (by simp))
  | [a, b], _, h8 => exact beg_2 a b (h8 a (by simp))
  | [a, b, c], _, h8 => exact beg_3 a b c (h8 a (by simp))
  | a :: b :: c :: d :: t, _, h8 =>
    have e : fullB (a :: b :: c :: d :: t) = true := by
      cases hq : fullB (a :: b :: c :: d :: t) with
      | true => rfl
      | false => have := full_four _ h8 hq; simp at this
    rw [e]
    refine List.any_eq_false.2 fun m hm => ?_
    have := List.mem_range.1 hm
    rw [decide_eq_false (by simp; omega)]
    simp

end Go.Proofs.YtoiekhjmfoodiaaDoor

namespace Go.Proofs.YtoiekhjmfoodiaaDoor
open Go.RowKit Go.Shelf

set_option maxRecDepth 100000 in
theorem size_yes {zs : List Nat} {m : Nat} (h1 : 1 ≤ m) (h3 : m ≤ 3) (hl : m ≤ zs.length) (h : fullB (zs.take m) = false) : sizeF zs m = m := by
  rcases (by omega : m = 1 ∨ m = 2 ∨ m = 3) with rfl | rfl | rfl
  · simp [sizeF]
  · simp [sizeF, h, hl]
  · simp [sizeF, h, hl]
set_option maxRecDepth 100000 in
theorem size_no {zs : List Nat} {m : Nat} (h3 : m ≤ 2) (h : fullB (zs.take (m + 1)) = true) : sizeF zs (m + 1) = sizeF zs m := by
  rcases (by omega : m = 0 ∨ m = 1 ∨ m = 2) with rfl | rfl | rfl
  · simp [sizeF]
  · simp [sizeF, h]
  · simp [sizeF, h]
set_option maxRecDepth 100000 in
theorem size_end {zs : List Nat} {m : Nat} (h : 3 ≤ m ∨ zs.length ≤ m) : sizeF zs m = begF zs := by
  rw [← size_beg]
  unfold sizeF
  have e3 : (3 ≤ m ∧ 3 ≤ zs.length ∧ fullB (zs.take 3) = false) ↔ (3 ≤ 3 ∧ 3 ≤ zs.length ∧ fullB (zs.take 3) = false) := by
    constructor <;> (rintro ⟨a, b, c⟩; exact ⟨by omega, b, c⟩)
  have e2 : (2 ≤ m ∧ 2 ≤ zs.length ∧ fullB (zs.take 2) = false) ↔ (2 ≤ 3 ∧ 2 ≤ zs.length ∧ fullB (zs.take 2) = false) := by
    constructor <;> (rintro ⟨a, b, c⟩; exact ⟨by omega, b, c⟩)
  simp only [e3, e2]
set_option maxRecDepth 100000 in
theorem size_0 (zs : List Nat) : sizeF zs 0 = 1 := by simp [sizeF]

def OnePost (zs : List Nat) (w : World) (e : Ending) (w' : World) : Prop :=
  e = .returned (.tuple #[.int .i32 (firstF zs).1, .int .i64 (firstF zs).2]) ∧ Below w.heap.size w w'

set_option maxRecDepth 100000 in
set_option maxHeartbeats 4000000 in
theorem one_any (b off : Nat) (zs : List Nat) (n c : Nat) (hn : n = zs.length) (h0 : 0 < n) (hcap : n ≤ c) (w : World) (hR : BS w w.heap.size (some ⟨b, off, none⟩) zs) :
    Calls Tryd.prog 75 #[.slice (some ⟨b, off, none⟩) n c] w (OnePost zs w) := by
  have hne : zs ≠ [] := by rintro rfl; simp at hn; omega
  have HIs : Hid (∀ (m : Nat) (W : World), m ≤ n → Below w.heap.size w W → Calls Tryd.prog 79 #[.slice (some ⟨b, off, none⟩) m c] W fun e w' => e = .returned (.bool (isB (zs.take m))) ∧ Below W.heap.size W w') := Lib.hid fun m W hm hW =>
    is_any _ (zs.take m) m c (by rw [List.length_take]; omega) W (((hR.take m).below hW).more hW.size)
  have HNum : Hid (∀ (m : Nat) (W : World), m ≤ n → Below w.heap.size w W → Calls Tryd.prog 80 #[.slice (some ⟨b, off, none⟩) m c] W fun e w' => e = .returned (.int .i32 (numZ (zs.take m))) ∧ Below W.heap.size W w') := Lib.hid fun m W hm hW =>
    number_any _ (zs.take m) m c (by rw [List.length_take]; omega) W (((hR.take m).below hW).more hW.size)
  have HBeg : Hid (∀ (m : Nat) (W : World), 1 ≤ m → m ≤ 3 → m ≤ n → Below w.heap.size w W → Calls Tryd.prog 81 #[.slice (some ⟨b, off, none⟩) m c] W fun e w' => e = .returned (.bool (!fullB (zs.take m))) ∧ Below W.heap.size W w') := Lib.hid fun m W h1 h3 hm hW => by
    have h8 : ∀ z ∈ zs.take m, z < 256 := fun z hz => hR.1 z (List.mem_of_mem_take hz)
    have hl : m = (zs.take m).length := by rw [List.length_take]; omega
    have hz : zs.take m ≠ [] := by intro e; rw [e] at hl; simp at hl; omega
    rw [← beg_full _ h8 hz]
    exact begins_any b off (zs.take m) m c hl (by omega) h3 W (((hR.take m).below hW).more hW.size)
  have H8 : Hid (∀ z ∈ zs, z < 256) := Lib.hid hR.1
  have HN := Lib.hid hn
  have HNE := Lib.hid hne
  clear hR hn hne
  unfold OnePost
  go_enter Tryd.func75, Tryd.ntmps75
  go_wp2
  go_loopw [4] (fun i wr => ∃ m : Nat, 1 ≤ m ∧ m ≤ 5 ∧ i = .int .i64 m ∧ Hid (∀ j, 1 ≤ j → j < m → j ≤ n → isB (zs.take j) = false) ∧ Hid (Below w.heap.size w wr)) (fun i _ => 5 - (intOf i).toNat)
  case atStart => exact ⟨1, by omega, by omega, rfl, Lib.hid (fun j h1 h2 => by omega), Lib.hid (Below.refl _ _)⟩
  case round =>
    obtain ⟨m, hm1, hm5, rfl, HK, HB⟩ := hrel
    by_cases hc : m ≤ 4 ∧ m ≤ n
    · obtain ⟨hm4, hmn⟩ := hc
      have hi := HIs.out m wr hmn HB.out
      have hm4' : (m : Int) ≤ 4 := by omega
      have hmn' : (m : Int) ≤ n := by omega
      have hmc' : (m : Int) ≤ c := by omega
      have hmc : m ≤ c := by omega
      cases hq : isB (zs.take m) with
      | true =>
        have HF : Hid (firstF zs = ((numZ (zs.take m)).toNat, m)) := Lib.hid (first_is zs m (by rw [← HN.out]; exact hmn) hq)
        have HZ : Hid (((numZ (zs.take m)).toNat : Int) = numZ (zs.take m)) := Lib.hid (Int.toNat_of_nonneg (scalarB_bd (is_some hq).1).1)
        have HM := Lib.hid (fun W hW => HNum.out m W hmn hW)
        rw [hq] at hi
        clear hq
        generalize numZ (zs.take m) = z at *
        go_wp2_with (first | (go_at_call 79; (with_reducible refine hi.mono ?_); clear hi; rintro e w8 ⟨rfl, hb8⟩; have HB8 := Lib.hid (bel0 HB.out hb8)) | (go_at_call 80; (with_reducible refine (HM.out _ HB8.out).mono ?_); rintro e w9 ⟨rfl, hb9⟩))
        go_ret2
        refine ⟨?_, bel0 HB8.out hb9⟩
        rw [HF.out]
        dsimp only
        rw [HZ.out]
        rfl
      | false =>
        have HK' : Hid (∀ j, 1 ≤ j → j < m + 1 → j ≤ n → isB (zs.take j) = false) := Lib.hid fun j h1 h2 h3 => by
          rcases Nat.lt_or_ge j m with h | h
          · exact HK.out j h1 h h3
          · obtain rfl : j = m := by omega
            exact hq
        rw [hq] at hi
        clear hq
        go_wp2_with (go_at_call 79; (with_reducible refine hi.mono ?_); clear hi; rintro e w8 ⟨rfl, hb8⟩; have HB8 := Lib.hid (bel0 HB.out hb8))
        go_roundw
        case rel => exact ⟨m + 1, by omega, by omega, by go_num, HK', HB8⟩
        case measure => simp [intOf]; omega
    · have HF : Hid (firstF zs = (65533, begF zs)) := Lib.hid (first_not zs H8.out HNE.out fun j h1 h2 h3 => HK.out j h1 (by rw [← HN.out] at h3; omega) (by rw [HN.out]; exact h3))
      clear HK HIs HNum
      rcases (by omega : 4 < m ∨ (m ≤ 4 ∧ n < m)) with h4 | ⟨h4, h5⟩
      · have h4' : ¬ (m : Int) ≤ 4 := by omega
        have hd4 : decide ((m : Int) ≤ 4) = false := decide_eq_false h4'
        clear hc
        obtain ⟨wo, rfl⟩ : ∃ wo : World, wo = wr := ⟨_, rfl⟩
        go_wp2
        go_loopw [5, 6] (fun s i wr => ∃ (q z : Nat), 1 ≤ q ∧ q ≤ 4 ∧ i = .int .i64 q ∧ s = .int .i64 z ∧ Hid (z = sizeF zs (q - 1)) ∧ Hid (Below w.heap.size w wr)) (fun _ i _ => 5 - (intOf i).toNat)
        case atStart => exact ⟨1, 1, by omega, by omega, rfl, rfl, Lib.hid (size_0 zs).symm, HB⟩
        case round =>
          obtain ⟨q, z, hq1, hq4, rfl, rfl, HZ, HBW⟩ := hrel
          rcases (by omega : (q ≤ 3 ∧ q ≤ n) ∨ 3 < q ∨ (q ≤ 3 ∧ n < q)) with ⟨hq3, hqn⟩ | h3 | ⟨hq3, hqn⟩
          · have hi := HBeg.out q wr hq1 hq3 hqn HBW.out
            have hm4' : (q : Int) ≤ 3 := by omega
            have hmn' : (q : Int) ≤ n := by omega
            have hmc' : (q : Int) ≤ c := by omega
            have hmc : q ≤ c := by omega
            cases hf : fullB (zs.take q) with
            | false =>
              have HS : Hid (q = sizeF zs (q + 1 - 1)) := Lib.hid (by rw [Nat.add_sub_cancel]; exact (size_yes hq1 hq3 (by rw [← HN.out]; exact hqn) hf).symm)
              rw [hf] at hi
              clear hf
              rw [show (!false) = true from rfl] at hi
              go_wp2_with (go_at_call 81; (with_reducible refine hi.mono ?_); clear hi; rintro e w8 ⟨rfl, hb8⟩; have HB8 := Lib.hid (bel0 HBW.out hb8))
              go_roundw
              case rel => exact ⟨q + 1, q, by omega, by omega, by go_num, rfl, HS, HB8⟩
              case measure => simp [intOf]; omega
            | true =>
              have HS : Hid (z = sizeF zs (q + 1 - 1)) := Lib.hid (by
                rw [HZ.out, Nat.add_sub_cancel]
                have := size_no (zs := zs) (m := q - 1) (by omega) (by rw [show q - 1 + 1 = q by omega]; exact hf)
                rw [show q - 1 + 1 = q by omega] at this
                exact this.symm)
              rw [hf] at hi
              clear hf
              rw [show (!true) = false from rfl] at hi
              go_wp2_with (go_at_call 81; (with_reducible refine hi.mono ?_); clear hi; rintro e w8 ⟨rfl, hb8⟩; have HB8 := Lib.hid (bel0 HBW.out hb8))
              go_roundw
              case rel => exact ⟨q + 1, z, by omega, by omega, by go_num, rfl, HS, HB8⟩
              case measure => simp [intOf]; omega
          · have HE : Hid (z = begF zs) := Lib.hid (HZ.out.trans (size_end (.inl (by omega))))
            have hd : decide ((q : Int) ≤ 3) = false := decide_eq_false (by omega)
            have h3' : ¬ (q : Int) ≤ 3 := by omega
            go_wp2
            go_ret2
            exact ⟨by rw [HF.out, ← HE.out]; rfl, HBW.out⟩
          · have HE : Hid (z = begF zs) := Lib.hid (HZ.out.trans (size_end (.inr (by rw [← HN.out]; omega))))
            have hd : decide ((q : Int) ≤ 3) = true := decide_eq_true (by omega)
            have hd' : decide ((q : Int) ≤ n) = false := decide_eq_false (by omega)
            have h3' : ¬ (q : Int) ≤ n := by omega
            go_wp2
            go_ret2
            exact ⟨by rw [HF.out, ← HE.out]; rfl, HBW.out⟩
      · have h4' : (m : Int) ≤ 4 := by omega
        have h5' : ¬ (m : Int) ≤ n := by omega
        have hd5 : decide ((m : Int) ≤ n) = false := decide_eq_false h5'
        clear hc
        obtain ⟨wo, rfl⟩ : ∃ wo : World, wo = wr := ⟨_, rfl⟩
        go_wp2
        go_loopw [5, 6] (fun s i wr => ∃ (q z : Nat), 1 ≤ q ∧ q ≤ 4 ∧ i = .int .i64 q ∧ s = .int .i64 z ∧ Hid (z = sizeF zs (q - 1)) ∧ Hid (Below w.heap.size w wr)) (fun _ i _ => 5 - (intOf i).toNat)
        case atStart => exact ⟨1, 1, by omega, by omega, rfl, rfl, Lib.hid (size_0 zs).symm, HB⟩
        case round =>
          obtain ⟨q, z, hq1, hq4, rfl, rfl, HZ, HBW⟩ := hrel
          rcases (by omega : (q ≤ 3 ∧ q ≤ n) ∨ 3 < q ∨ (q ≤ 3 ∧ n < q)) with ⟨hq3, hqn⟩ | h3 | ⟨hq3, hqn⟩
          · have hi := HBeg.out q wr hq1 hq3 hqn HBW.out
            have hm4' : (q : Int) ≤ 3 := by omega
            have hmn' : (q : Int) ≤ n := by omega
            have hmc' : (q : Int) ≤ c := by omega
            have hmc : q ≤ c := by omega
            cases hf : fullB (zs.take q) with
            | false =>
              have HS : Hid (q = sizeF zs (q + 1 - 1)) := Lib.hid (by rw [Nat.add_sub_cancel]; exact (size_yes hq1 hq3 (by rw [← HN.out]; exact hqn) hf).symm)
              rw [hf] at hi
              clear hf
              rw [show (!false) = true from rfl] at hi
              go_wp2_with (go_at_call 81; (with_reducible refine hi.mono ?_); clear hi; rintro e w8 ⟨rfl, hb8⟩; have HB8 := Lib.hid (bel0 HBW.out hb8))
              go_roundw
              case rel => exact ⟨q + 1, q, by omega, by omega, by go_num, rfl, HS, HB8⟩
              case measure => simp [intOf]; omega
            | true =>
              have HS : Hid (z = sizeF zs (q + 1 - 1)) := Lib.hid (by
                rw [HZ.out, Nat.add_sub_cancel]
                have := size_no (zs := zs) (m := q - 1) (by omega) (by rw [show q - 1 + 1 = q by omega]; exact hf)
                rw [show q - 1 + 1 = q by omega] at this
                exact this.symm)
              rw [hf] at hi
              clear hf
              rw [show (!true) = false from rfl] at hi
              go_wp2_with (go_at_call 81; (with_reducible refine hi.mono ?_); clear hi; rintro e w8 ⟨rfl, hb8⟩; have HB8 := Lib.hid (bel0 HBW.out hb8))
              go_roundw
              case rel => exact ⟨q + 1, z, by omega, by omega, by go_num, rfl, HS, HB8⟩
              case measure => simp [intOf]; omega
          · have HE : Hid (z = begF zs) := Lib.hid (HZ.out.trans (size_end (.inl (by omega))))
            have hd : decide ((q : Int) ≤ 3) = false := decide_eq_false (by omega)
            have h3' : ¬ (q : Int) ≤ 3 := by omega
            go_wp2
            go_ret2
            exact ⟨by rw [HF.out, ← HE.out]; rfl, HBW.out⟩
          · have HE : Hid (z = begF zs) := Lib.hid (HZ.out.trans (size_end (.inr (by rw [← HN.out]; omega))))
            have hd : decide ((q : Int) ≤ 3) = true := decide_eq_true (by omega)
            have hd' : decide ((q : Int) ≤ n) = false := decide_eq_false (by omega)
            have h3' : ¬ (q : Int) ≤ n := by omega
            go_wp2
            go_ret2
            exact ⟨by rw [HF.out, ← HE.out]; rfl, HBW.out⟩

end Go.Proofs.YtoiekhjmfoodiaaDoor

namespace Go.Proofs.YtoiekhjmfoodiaaDoor
open Go.RowKit Go.Shelf

set_option maxRecDepth 100000 in
theorem ownsRow_belowR {w w' : World} {base : Nat} {v : Value} {n : Nat} {xs : List Value} (h : w.ownsRow base 21 1 v n xs) (hb : Below w.heap.size w w') : w'.ownsRow base 21 1 v n xs := ownsRow_below' h hb

set_option maxRecDepth 100000 in
set_option maxHeartbeats 4000000 in
theorem refAll_any (b off : Nat) (zs : List Nat) (n c : Nat) (hn : n = zs.length) (hlen : n ≤ 2000000) (hcap : n ≤ c) (h63 : c ≤ 9223372036854775807) (w : World) (hR : BS w w.heap.size (some ⟨b, off, none⟩) zs) :
    Calls Tryd.prog 57 #[.slice (some ⟨b, off, none⟩) n c] w (AllPost zs w) := by
  obtain ⟨i0, hi, hz0, hz1, hz2⟩ := info_parts Tryd.infoRune
  have H8 : Hid (∀ z ∈ zs, z < 256) := Lib.hid hR.1
  have HR := Lib.hid hR
  have HN := Lib.hid hn
  clear hR hn
  go_enter Tryd.func57, Tryd.ntmps57
  go_wp2
  go_loopw [0, 3] (fun v o wr => ∃ (k o' : Nat) (pre : List Nat) (vo : Value), vo = o ∧ k ≤ n ∧ pre.length ≤ k ∧ Hid (k < n → o' = off + k) ∧ v = .slice (some ⟨b, o', none⟩) (n - k) (c - k) ∧ Hid (allL zs = pre ++ allL (zs.drop k)) ∧ Hid (wr.ownsRow w.heap.size 21 1 vo pre.length (pre.map encN)) ∧ Hid (Below w.heap.size w wr))
    (fun v _ _ => match v with | .slice _ q _ => q | _ => 0)
  case atStart => exact ⟨0, off, [], _, rfl, by omega, by simp, Lib.hid (fun _ => rfl), rfl, Lib.hid rfl, Lib.hid (World.ownsRow_nil _ _ _ _), Lib.hid (Below.refl _ _)⟩
  case round =>
    obtain ⟨k, o', pre, vo, rfl, hkn, hpk, HO, rfl, HK, HW, HB⟩ := hrel
    by_cases hlt : k < n
    · have hl : n - k = (zs.drop k).length := by rw [List.length_drop, ← HN.out]
      have hne : zs.drop k ≠ [] := by intro e; rw [e] at hl; simp at hl; omega
      have hBr : BS wr wr.heap.size (some ⟨b, o', none⟩) (zs.drop k) := ((HR.out.below HB.out).drop k o' (fun h => HO.out (by rw [HN.out]; exact h))).more HB.out.size
      have h1 := one_any b o' (zs.drop k) (n - k) (c - k) hl (by omega) (by omega) wr hBr
      obtain ⟨hm1, hm4, hmn⟩ := firstF_bd (zs.drop k) (List.length_pos_iff.2 hne)
      rw [← hl] at hmn
      have HZ : Hid (allL zs = (pre ++ [(firstF (zs.drop k)).1]) ++ allL (zs.drop (k + (firstF (zs.drop k)).2))) := Lib.hid (by
        rw [HK.out, all_step (zs.drop k) (fun z hz => H8.out z (List.mem_of_mem_drop hz)) hne, List.drop_drop, List.append_assoc]; rfl)
      unfold OnePost at h1
      clear hl hne hBr HK
      generalize (firstF (zs.drop k)).1 = r at *
      generalize (firstF (zs.drop k)).2 = fm at *
      have hp1 : pre.length + 1 ≤ maxLen := by unfold maxLen; omega
      have hp2 : (pre.length + 1) * 4 ≤ 140737488355328 := by omega
      have hpos : 0 < n - k := by omega
      have hmi : (fm : Int) ≤ (n - k : Nat) := by omega
      have hmc : fm ≤ c - k := by omega
      have HBS : Hid (∀ (W : World) (o : Obj), Below w.heap.size w W → w.heap.size ≤ (W.alloc o).heap.size) := Lib.hid fun W o hW => by have := hW.size; simp; omega
      by_cases hcm : c - k = fm
      · have hO' : Hid (k + fm < n → o' = off + (k + fm)) := Lib.hid fun h => by omega
        subst hcm
        go_wp2_with (first
          | (go_at_call 75; (with_reducible refine h1.mono ?_); clear h1; rintro e w8 ⟨rfl, hb8⟩; have HB8 := Lib.hid (bel0 HB.out hb8); have HW8 := Lib.hid (ownsRow_belowR HW.out hb8); clear hb8)
          | (at_builtin; go_must (refine wpList_append_own _ rfl _ _ 71 rfl w.heap.size 21 i0 (.int .i32 0) 1 4 Tryd.underlying71 hi hz0 hz1 hz2 rfl (by decide) _ _ _ rfl (HW8.out.alloc _) ⟨w8.heap.size, 0, none⟩ 1 1 [.int .i32 (r : Nat)] rfl rfl (cell_one_new _ _ _) (by simp [Value.oneCell']) hp1 hp2 (HBS.out _ _ HB8.out) ?_; intro v' w9 hown' hgrow _; have hB9 : Hid (Below w.heap.size w w9) := Lib.hid ((HB8.out.alloc HB8.out.size _).grown hgrow (HBS.out _ _ HB8.out) (fun k e => (HW8.out.lt k e).1)); have HW9 := Lib.hid hown'; clear hgrow hown')))
        go_roundw
        case rel => exact ⟨k + (c - k), o', pre ++ [r], _, rfl, by omega, by simp; omega, hO', by rw [Nat.sub_add_eq, Nat.sub_add_eq, show c - k - (c - k) = 0 by omega], HZ, Lib.hid (by rw [List.length_append, List.map_append]; exact HW9.out), hB9⟩
        case measure => show n - k - (c - k) < n - k; omega
      · have hO' : Hid (k + fm < n → o' + fm = off + (k + fm)) := Lib.hid fun h => by rw [HO.out (by omega), Nat.add_assoc]
        go_wp2_with (first
          | (go_at_call 75; (with_reducible refine h1.mono ?_); clear h1; rintro e w8 ⟨rfl, hb8⟩; have HB8 := Lib.hid (bel0 HB.out hb8); have HW8 := Lib.hid (ownsRow_belowR HW.out hb8); clear hb8)
          | (at_builtin; go_must (refine wpList_append_own _ rfl _ _ 71 rfl w.heap.size 21 i0 (.int .i32 0) 1 4 Tryd.underlying71 hi hz0 hz1 hz2 rfl (by decide) _ _ _ rfl (HW8.out.alloc _) ⟨w8.heap.size, 0, none⟩ 1 1 [.int .i32 (r : Nat)] rfl rfl (cell_one_new _ _ _) (by simp [Value.oneCell']) hp1 hp2 (HBS.out _ _ HB8.out) ?_; intro v' w9 hown' hgrow _; have hB9 : Hid (Below w.heap.size w w9) := Lib.hid ((HB8.out.alloc HB8.out.size _).grown hgrow (HBS.out _ _ HB8.out) (fun k e => (HW8.out.lt k e).1)); have HW9 := Lib.hid hown'; clear hgrow hown')))
        go_roundw
        case rel => exact ⟨k + fm, o' + fm, pre ++ [r], _, rfl, by omega, by simp; omega, hO', by rw [Nat.sub_add_eq, Nat.sub_add_eq], HZ, Lib.hid (by rw [List.length_append, List.map_append]; exact HW9.out), hB9⟩
        case measure => show n - k - fm < n - k; omega
    · have HZ : Hid (allL zs = pre) := Lib.hid (by rw [HK.out, List.drop_of_length_le (by rw [← HN.out]; omega), allL_nil_u, List.append_nil])
      have hz : n - k = 0 := by omega
      rw [hz]
      go_wp2
      go_ret
      exact ⟨vo, rfl, by rw [HZ.out]; exact HW.out, HB.out⟩

set_option maxRecDepth 100000 in
theorem refAll_none (A : Option Addr) (c : Nat) (w : World) : Calls Tryd.prog 57 #[.slice A 0 c] w (AllPost [] w) := by
  go_enter Tryd.func57, Tryd.ntmps57
  go_wp2
  go_loopw [0, 3] (fun v o wr => v = .slice A 0 c ∧ o = .slice none 0 0 ∧ wr = w) (fun _ _ _ => 0)
  case atStart => exact ⟨rfl, rfl, rfl⟩
  case round =>
    obtain ⟨rfl, rfl, rfl⟩ := hrel
    go_wp2
    go_ret
    exact ⟨_, rfl, World.ownsRow_nil _ _ _ _, Below.refl _ _⟩
set_option maxRecDepth 100000 in
theorem refAll_all (A : Option Addr) (zs : List Nat) (n c : Nat) (hn : n = zs.length) (hlen : n ≤ 2000000) (hcap : n ≤ c) (h63 : c ≤ 9223372036854775807) (w : World) (hR : BS w w.heap.size A zs) :
    Calls Tryd.prog 57 #[.slice A n c] w (AllPost zs w) := by
  by_cases hz : zs = []
  · subst hz
    simp at hn
    subst hn
    exact refAll_none A c w
  · obtain ⟨b, off, rfl, _, _⟩ := hR.2 hz
    exact refAll_any b off zs n c hn hlen hcap h63 w hR

set_option maxRecDepth 100000 in
theorem begins_4 (b off n c : Nat) (h4 : 4 ≤ n) (h63 : n ≤ 2000000) (w : World) :
    Calls Tryd.prog 81 #[.slice (some ⟨b, off, none⟩) n c] w fun e w' => e = .returned (.bool false) ∧ Below w.heap.size w w' := by
  have hd : decide ((n : Int) + 1 ≤ 4) = false := decide_eq_false (by omega)
  have hn : ¬ ((n : Int) + 1 ≤ 4) := by omega
  go_enter Tryd.func81, Tryd.ntmps81
  go_wp2
  go_loopw [3] (fun i wr => i = .int .i64 ((n : Int) + 1) ∧ wr = w) (fun _ _ => 0)
  case atStart => exact ⟨rfl, rfl⟩
  case round =>
    obtain ⟨rfl, rfl⟩ := hrel
    go_wp2
    go_ret
    exact ⟨rfl, Below.refl _ _⟩
set_option maxRecDepth 100000 in
theorem begins_all (b off : Nat) (zs : List Nat) (n c : Nat) (hn : n = zs.length) (h0 : 0 < n) (hlen : n ≤ 2000000) (w : World) (hR : BS w w.heap.size (some ⟨b, off, none⟩) zs) :
    Calls Tryd.prog 81 #[.slice (some ⟨b, off, none⟩) n c] w fun e w' => e = .returned (.bool (!fullB zs)) ∧ Below w.heap.size w w' := by
  have hz : zs ≠ [] := by rintro rfl; simp at hn; omega
  by_cases h3 : n ≤ 3
  · rw [← beg_full zs hR.1 hz]
    exact begins_any b off zs n c hn h0 h3 w hR
  · have hf : fullB zs = true := by
      cases hq : fullB zs with
      | true => rfl
      | false => have := full_four zs hR.1 hq; omega
    rw [hf]
    exact begins_4 b off n c (by omega) hlen w

end Go.Proofs.YtoiekhjmfoodiaaDoor
