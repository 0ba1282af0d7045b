/- Plain facts: which bytes are a scalar's, which begin so, what is read first of any, by the document and by the program. -/
import Derived.Test.YtdhmpnjodcjjpaaDoorUq
import Derived.Test.YtdhmpnjodcjjpaaDoorUp
namespace Go.Proofs.YtdhmpnjodcjjpaaDoor
open Go.RowKit

theorem numZ_1 (a : Nat) : numZ [a] = a := rfl
theorem contB_2 (a b : Nat) : contB [a, b] 2 = (decide (128 ≤ b) && decide (b ≤ 191)) := by
  simp [contB, List.range_succ]
theorem contB_3 (a b c : Nat) : contB [a, b, c] 3 = ((decide (128 ≤ b) && decide (b ≤ 191)) && (decide (128 ≤ c) && decide (c ≤ 191))) := by
  simp [contB, List.range_succ]
theorem contB_4 (a b c d : Nat) : contB [a, b, c, d] 4 = (((decide (128 ≤ b) && decide (b ≤ 191)) && (decide (128 ≤ c) && decide (c ≤ 191))) && (decide (128 ≤ d) && decide (d ≤ 191))) := by
  simp [contB, List.range_succ, Bool.and_assoc]
theorem numZ_2 (a b : Nat) : numZ [a, b] = if 192 ≤ a ∧ a < 224 ∧ 128 ≤ b ∧ b ≤ 191 then 64 * ((a : Int) - 192) + ((b : Int) - 128) else -1 := by
  have e : numZ [a, b] = numN 192 32 2 [a, b] := rfl
  rw [e]
  unfold numN
  rw [contB_2]
  simp only [List.getElem?_cons_zero, Option.getD_some, Bool.and_eq_true, decide_eq_true_eq]
  have hv : accZ 192 [a, b] 2 = 64 * ((a : Int) - 192) + (b : Int) - 128 := rfl
  rw [hv]
  repeat' split
  all_goals omega
theorem numZ_3 (a b c : Nat) : numZ [a, b, c] = if 224 ≤ a ∧ a < 240 ∧ 128 ≤ b ∧ b ≤ 191 ∧ 128 ≤ c ∧ c ≤ 191 then 4096 * ((a : Int) - 224) + 64 * ((b : Int) - 128) + ((c : Int) - 128) else -1 := by
  have e : numZ [a, b, c] = numN 224 16 3 [a, b, c] := rfl
  rw [e]
  unfold numN
  rw [contB_3]
  simp only [List.getElem?_cons_zero, Option.getD_some, Bool.and_eq_true, decide_eq_true_eq]
  have hv : accZ 224 [a, b, c] 3 = 64 * (64 * ((a : Int) - 224) + (b : Int) - 128) + (c : Int) - 128 := rfl
  rw [hv]
  repeat' split
  all_goals omega
theorem numZ_4 (a b c d : Nat) : numZ [a, b, c, d] = if 240 ≤ a ∧ a < 248 ∧ 128 ≤ b ∧ b ≤ 191 ∧ 128 ≤ c ∧ c ≤ 191 ∧ 128 ≤ d ∧ d ≤ 191 then 262144 * ((a : Int) - 240) + 4096 * ((b : Int) - 128) + 64 * ((c : Int) - 128) + ((d : Int) - 128) else -1 := by
  have e : numZ [a, b, c, d] = numN 240 8 4 [a, b, c, d] := rfl
  rw [e]
  unfold numN
  rw [contB_4]
  simp only [List.getElem?_cons_zero, Option.getD_some, Bool.and_eq_true, decide_eq_true_eq]
  have hv : accZ 240 [a, b, c, d] 4 = 64 * (64 * (64 * ((a : Int) - 240) + (b : Int) - 128) + (c : Int) - 128) + (d : Int) - 128 := rfl
  rw [hv]
  repeat' split
  all_goals omega

/-- What a scalar's bytes say. -/
theorem num_put (r : Int) (h : scalarB r = true) : numZ (putL r) = r := by
  obtain ⟨h0, h1⟩ := scalarB_bd h
  obtain ⟨n, rfl⟩ := Int.eq_ofNat_of_zero_le h0
  unfold putL
  rw [if_pos h]
  by_cases a : (n : Int) < 128
  · rw [if_pos a]
    simp only [putN, numZ_1]
    omega
  rw [if_neg a]
  by_cases b : (n : Int) < 2048
  · rw [if_pos b]
    simp only [putN, numZ_2]
    rw [if_pos (by omega)]
    omega
  rw [if_neg b]
  by_cases c : (n : Int) < 65536
  · rw [if_pos c]
    simp only [putN, numZ_3]
    rw [if_pos (by omega)]
    omega
  rw [if_neg c]
  simp only [putN, numZ_4]
  rw [if_pos (by omega)]
  omega
theorem is_put (r : Int) (h : scalarB r = true) : isB (putL r) = true := by
  unfold isB
  rw [num_put r h, decide_eq_true (scalarB_bd h).1, decide_eq_true rfl]
  rfl
/-- What is a scalar's bytes. -/
theorem is_some {zs : List Nat} (h : isB zs = true) : scalarB (numZ zs) = true ∧ putL (numZ zs) = zs := by
  unfold isB at h
  simp only [Bool.and_eq_true, decide_eq_true_eq] at h
  refine ⟨?_, h.2⟩
  cases hs : scalarB (numZ zs) with
  | true => rfl
  | false =>
    exfalso
    have e : putL (numZ zs) = [] := by unfold putL; rw [hs]; rfl
    have ez : zs = [] := by rw [← h.2]; exact e
    rw [ez] at h
    exact absurd h.1 (by decide)

/-- What is read first where a scalar's bytes stand. -/
theorem first_is (zs : List Nat) (n : Nat) (hn : n ≤ zs.length) (h : isB (zs.take n) = true) : firstF zs = ((numZ (zs.take n)).toNat, n) := by
  obtain ⟨hs, hp⟩ := is_some h
  have := first_put _ hs (zs.drop n)
  rw [hp, List.take_append_drop] at this
  rw [this, List.length_take, Nat.min_eq_left hn]

set_option maxRecDepth 100000 in
set_option maxHeartbeats 4000000 in
/-- What the library reads is broken, or a scalar whose bytes stand there. -/
theorem dec_some (zs : List Nat) (h8 : ∀ z ∈ zs, z < 256) (h0 : zs ≠ []) : decN zs = (65533, 1) ∨ (1 ≤ (decN zs).2 ∧ (decN zs).2 ≤ 4 ∧ (decN zs).2 ≤ zs.length ∧ isB (zs.take (decN zs).2) = true) := by
  have key : ∀ (r : Nat) (k : Nat), scalarB r = true → (putL r).length = k → zs.take k = putL r → (r, k) = (65533, 1) ∨ (1 ≤ k ∧ k ≤ 4 ∧ k ≤ zs.length ∧ isB (zs.take k) = true) := fun r k hs hl ht => by
    have hb := putL_len r hs
    refine .inr ⟨by omega, by omega, ?_, by rw [ht]; exact is_put r hs⟩
    have := congrArg List.length ht
    rw [List.length_take, hl] at this
    omega
  have hput : ∀ n : Nat, (n < 55296 ∨ (57344 ≤ n ∧ n ≤ 1114111)) → scalarB (n : Int) = true := fun n hn => decide_eq_true (by omega)
  match zs, h0, h8 with
  | a :: t, _, h8 =>
    have ha := h8 a (by simp)
    unfold decN
    simp only [List.getElem?_cons_zero, Option.getD_some, List.length_cons, List.getElem?_cons_succ]
    unfold Lib.decodeN
    split
    · rename_i h1
      refine key a 1 (hput a (by omega)) ?_ ?_
      · unfold putL; rw [if_pos (hput a (by omega)), if_pos (by omega)]; rfl
      · unfold putL; rw [if_pos (hput a (by omega)), if_pos (by omega)]; simp [putN]
    rename_i h1
    split
    · rename_i h2
      match t, h8 with
      | [], _ => exact absurd h2.2.1 (by simp)
      | b :: t, h8 =>
        have hb := h8 b (by simp)
        simp only [List.getElem?_cons_zero, Option.getD_some] at h2 ⊢
        split
        · rename_i h3
          generalize hr : a % 32 * 64 + b % 64 = r
          have hr2 : 128 ≤ r ∧ r < 2048 := by omega
          have e : putL (r : Int) = [a, b] := by
            unfold putL
            rw [if_pos (hput r (by omega)), if_neg (by omega), if_pos (by omega)]
            simp only [putN]
            congr 1
            · omega
            congr 1
            omega
          exact key r 2 (hput r (by omega)) (by rw [e]; rfl) (by rw [e]; rfl)
        · exact .inl rfl
    rename_i h2
    split
    · rename_i h3
      match t, h8 with
      | [], _ => exact absurd h3.2.1.1 (by simp)
      | [_], _ => exact absurd h3.2.2.1 (by simp)
      | b :: c :: t, h8 =>
        have hb := h8 b (by simp)
        have hc := h8 c (by simp)
        simp only [List.getElem?_cons_zero, Option.getD_some, List.getElem?_cons_succ] at h3 ⊢
        split
        · rename_i h4
          generalize hr : a % 16 * 4096 + b % 64 * 64 + c % 64 = r at h4 ⊢
          have hr2 : 2048 ≤ r ∧ r < 65536 := by omega
          have hq : r / 64 / 64 = a % 16 ∧ r / 64 % 64 = b % 64 ∧ r % 64 = c % 64 := by omega
          have e : putL (r : Int) = [a, b, c] := by
            unfold putL
            rw [if_pos (hput r (by omega)), if_neg (by omega), if_neg (by omega), if_pos (by omega)]
            simp only [putN]
            congr 1
            · omega
            congr 1
            · omega
            congr 1
            omega
          exact key r 3 (hput r (by omega)) (by rw [e]; rfl) (by rw [e]; rfl)
        · exact .inl rfl
    rename_i h3
    split
    · rename_i h4
      match t, h8 with
      | [], _ => exact absurd h4.2.1.1 (by simp)
      | [_], _ => exact absurd h4.2.2.1.1 (by simp)
      | [_, _], _ => exact absurd h4.2.2.2.1 (by simp)
      | b :: c :: d :: t, h8 =>
        have hb := h8 b (by simp)
        have hc := h8 c (by simp)
        have hd := h8 d (by simp)
        simp only [List.getElem?_cons_zero, Option.getD_some, List.getElem?_cons_succ] at h4 ⊢
        split
        · rename_i h5
          generalize hr : a % 8 * 262144 + b % 64 * 4096 + c % 64 * 64 + d % 64 = r at h5 ⊢
          have hr2 : 65536 ≤ r ∧ r ≤ 1114111 := by omega
          have hq : r / 64 / 64 / 64 = a % 8 ∧ r / 64 / 64 % 64 = b % 64 ∧ r / 64 % 64 = c % 64 ∧ r % 64 = d % 64 := by omega
          have e : putL (r : Int) = [a, b, c, d] := by
            unfold putL
            rw [if_pos (hput r (by omega)), if_neg (by omega), if_neg (by omega), if_neg (by omega)]
            simp only [putN]
            congr 1
            · omega
            congr 1
            · omega
            congr 1
            · omega
            congr 1
            omega
          exact key r 4 (hput r (by omega)) (by rw [e]; rfl) (by rw [e]; rfl)
        · exact .inl rfl
    · exact .inl rfl

/-- Where no scalar's bytes stand, it is broken. -/
theorem first_not (zs : List Nat) (h8 : ∀ z ∈ zs, z < 256) (h0 : zs ≠ []) (h : ∀ n, 1 ≤ n → n ≤ 4 → n ≤ zs.length → isB (zs.take n) = false) : firstF zs = (65533, begF zs) := by
  rcases dec_some zs h8 h0 with e | ⟨h1, h2, h3, h4⟩
  · unfold firstF
    rw [e, if_pos ⟨rfl, rfl⟩]
  · rw [h _ h1 h2 h3] at h4
    cases h4

theorem full_more (zs : List Nat) (n : Nat) (h : fullB (zs.take n) = true) : fullB (zs.take (n + 1)) = true := by
  unfold fullB fullN fullX at h ⊢
  have h := of_decide_eq_true h
  refine decide_eq_true ?_
  simp only [List.length_take] at h ⊢
  have g : ∀ i, i < n → (zs.take (n + 1))[i]?.getD 0 = (zs.take n)[i]?.getD 0 := fun i hi => by
    rw [List.getElem?_take, List.getElem?_take, if_pos hi, if_pos (by omega)]
  rw [g 0 (by omega)]
  refine ⟨by omega, ?_⟩
  rcases h.2 with h2 | h2 | h2
  · exact .inl (by omega)
  · rw [g 1 (by omega)]
    exact .inr (.inl ⟨by omega, h2.2⟩)
  · rw [g 2 (by omega)]
    exact .inr (.inr ⟨by omega, h2.2⟩)
/-- The size of what is broken. -/
def sizeF (zs : List Nat) (m : Nat) : Nat := if 3 ≤ m ∧ 3 ≤ zs.length ∧ fullB (zs.take 3) = false then 3 else if 2 ≤ m ∧ 2 ≤ zs.length ∧ fullB (zs.take 2) = false then 2 else 1
theorem size_beg (zs : List Nat) : sizeF zs 3 = begF zs := by
  unfold sizeF begF
  have hm := full_more zs 2
  have h4 := full4 zs
  cases h2 : fullB (zs.take 2)
  · cases h3 : fullB (zs.take 3)
    · cases h4' : fullB (zs.take 4)
      · rw [h4'] at h4
        by_cases a : zs.length ≤ 1
        · rw [if_neg (by omega), if_neg (by omega), if_pos (.inl a)]
        by_cases b : zs.length ≤ 2
        · rw [if_neg (by omega), if_pos ⟨by omega, by omega, rfl⟩, if_neg (by simp; omega), if_pos (.inl b)]
        by_cases c : zs.length ≤ 3
        · rw [if_pos ⟨by omega, by omega, rfl⟩, if_neg (by simp; omega), if_neg (by simp; omega), if_pos (.inl c)]
        · exact absurd (h4 (by omega)) (by simp)
      · by_cases a : zs.length ≤ 1
        · rw [if_neg (by omega), if_neg (by omega), if_pos (.inl a)]
        by_cases b : zs.length ≤ 2
        · rw [if_neg (by omega), if_pos ⟨by omega, by omega, rfl⟩, if_neg (by simp; omega), if_pos (.inl b)]
        · rw [if_pos ⟨by omega, by omega, rfl⟩, if_neg (by simp; omega), if_neg (by simp; omega), if_pos (.inr rfl)]
    · by_cases a : zs.length ≤ 1
      · rw [if_neg (by simp), if_neg (by omega), if_pos (.inl a)]
      · rw [if_neg (by simp), if_pos ⟨by omega, by omega, rfl⟩, if_neg (by simp; omega), if_pos (.inr rfl)]
  · rw [hm h2]
    simp

/-- What is no beginning, or nothing: its first bytes. -/
theorem full_take (zs : List Nat) (hf : fullB zs = false) (n : Nat) : fullB (zs.take n) = false := by
  cases hq : fullB (zs.take n) with
  | false => rfl
  | true =>
    exfalso
    have : ∀ d, fullB (zs.take (n + d)) = true := fun d => by
      induction d with
      | zero => exact hq
      | succ d ih => exact full_more zs (n + d) ih
    have h := this zs.length
    rw [List.take_of_length_le (by omega), hf] at h
    cases h
/-- A beginning is read as one broken scalar. -/
theorem first_wait (zs : List Nat) (h8 : ∀ z ∈ zs, z < 256) (h0 : zs ≠ []) (hf : fullB zs = false) : firstF zs = (65533, zs.length) := by
  have hl := full_four zs h8 hf
  have hp := List.length_pos_iff.2 h0
  rw [first_not zs h8 h0]
  · congr 1
    unfold begF
    rw [full_take zs hf, full_take zs hf, full_take zs hf]
    rcases (by omega : zs.length = 1 ∨ zs.length = 2 ∨ zs.length = 3) with e | e | e <;> rw [e] <;> simp
  · intro n h1 h2 h3
    cases hq : isB (zs.take n) with
    | false => rfl
    | true =>
      exfalso
      obtain ⟨hs, hp⟩ := is_some hq
      have := full_put _ hs (zs.drop n)
      rw [hp, List.take_append_drop, hf] at this
      cases this

theorem rdL_nil : rdL [] = [] := rfl
/-- What is read, scalar by scalar. -/
theorem all_step (zs : List Nat) (h8 : ∀ z ∈ zs, z < 256) (h0 : zs ≠ []) : allL zs = (firstF zs).1 :: allL (zs.drop (firstF zs).2) := by
  cases hf : fullB zs with
  | true =>
    have hb := firstF_bd zs (fullB_pos hf)
    unfold allL
    rw [rdL_yes zs hf]
    have es : sumB (firstF zs :: rdL (zs.drop (firstF zs).2)) = (firstF zs).2 + sumB (rdL (zs.drop (firstF zs).2)) := by simp [sumB]
    rw [es, List.map_cons, List.cons_append, List.length_drop]
    congr 2
    by_cases hh : sumB (rdL (zs.drop (firstF zs).2)) < zs.length - (firstF zs).2
    · rw [if_pos hh, if_pos (by omega)]
    · rw [if_neg hh, if_neg (by omega)]
  | false =>
    have hp := List.length_pos_iff.2 h0
    rw [first_wait zs h8 h0 hf]
    dsimp only
    rw [List.drop_length]
    unfold allL
    rw [rdL_no zs hf, rdL_nil]
    simp [sumB, hp]
theorem allL_nil : allL [] = [] := rfl

/-- How many bytes wait. -/
def waitL (zs : List Nat) : Nat := zs.length - sumB (rdL zs)
theorem wait_yes (zs : List Nat) (hf : fullB zs = true) : waitL zs = waitL (zs.drop (firstF zs).2) := by
  unfold waitL
  rw [rdL_yes zs hf]
  have es : sumB (firstF zs :: rdL (zs.drop (firstF zs).2)) = (firstF zs).2 + sumB (rdL (zs.drop (firstF zs).2)) := by simp [sumB]
  rw [es, List.length_drop]
  omega
theorem wait_no (zs : List Nat) (hf : fullB zs = false) : waitL zs = zs.length := by
  unfold waitL
  rw [rdL_no zs hf]
  simp [sumB]

theorem beg_take (zs : List Nat) (m : Nat) (hm : begF zs ≤ m) : begF (zs.take m) = begF zs := by
  have h1 : 1 ≤ begF zs := by unfold begF; (repeat' split) <;> omega
  rw [← begF_is (zs.take m) (begF zs) h1]
  · intro j hj1 hj2
    rw [List.take_take, Nat.min_eq_left (by omega), List.length_take]
    have : ∀ j, 1 ≤ j → j < begF zs → j < zs.length ∧ fullB (zs.take (j + 1)) = false := fun j hj1 hj2 => by
      unfold begF at hj2
      split at hj2
      · omega
      rename_i a
      have a1 : ¬ zs.length ≤ 1 := fun h => a (.inl h)
      have a2 : fullB (zs.take 2) = false := by simpa using fun h => a (.inr h)
      split at hj2
      · obtain rfl : j = 1 := by omega
        exact ⟨by omega, a2⟩
      rename_i b
      have b1 : ¬ zs.length ≤ 2 := fun h => b (.inl h)
      have b2 : fullB (zs.take 3) = false := by simpa using fun h => b (.inr h)
      split at hj2
      · rcases (by omega : j = 1 ∨ j = 2) with rfl | rfl
        · exact ⟨by omega, a2⟩
        · exact ⟨by omega, b2⟩
      rename_i c
      have c1 : ¬ zs.length ≤ 3 := fun h => c (.inl h)
      have c2 : fullB (zs.take 4) = false := by simpa using fun h => c (.inr h)
      rcases (by omega : j = 1 ∨ j = 2 ∨ j = 3) with rfl | rfl | rfl
      · exact ⟨by omega, a2⟩
      · exact ⟨by omega, b2⟩
      · exact ⟨by omega, c2⟩
    have := this j hj1 hj2
    exact ⟨by omega, this.2⟩
  · rw [List.length_take]
    rcases Nat.lt_or_ge (begF zs) m with h | h
    · rw [List.take_take, Nat.min_eq_left (show begF zs + 1 ≤ m by omega)]
      have : zs.length ≤ begF zs ∨ fullB (zs.take (begF zs + 1)) = true := by
        unfold begF
        split
        · rename_i a; exact a
        split
        · rename_i a; exact a
        split
        · rename_i a; exact a
        rename_i c
        exact absurd (full4 zs (Nat.lt_of_not_le fun h => c (.inl h))) fun h => c (.inr h)
      rcases this with h' | h'
      · exact .inl (by omega)
      · exact .inr h'
    · exact .inl (by omega)
/-- What is read first hangs on no byte behind it. -/
theorem first_take (zs : List Nat) (h8 : ∀ z ∈ zs, z < 256) (h0 : zs ≠ []) (m : Nat) (hm : (firstF zs).2 ≤ m) : firstF (zs.take m) = firstF zs := by
  rcases Classical.em (∃ n, 1 ≤ n ∧ n ≤ 4 ∧ n ≤ zs.length ∧ isB (zs.take n) = true) with ⟨n, h1, h2, h3, h4⟩ | hno
  · have e := first_is zs n h3 h4
    rw [e] at hm ⊢
    have := first_is (zs.take m) n (by rw [List.length_take]; dsimp only at hm; omega) (by rw [List.take_take, Nat.min_eq_left hm]; exact h4)
    rw [this, List.take_take, Nat.min_eq_left hm]
  · have hn : ∀ n, 1 ≤ n → n ≤ 4 → n ≤ zs.length → isB (zs.take n) = false := fun n h1 h2 h3 => by
      cases hq : isB (zs.take n) with
      | false => rfl
      | true => exact absurd ⟨n, h1, h2, h3, hq⟩ hno
    have e := first_not zs h8 h0 hn
    rw [e] at hm ⊢
    dsimp only at hm
    have hb1 : 1 ≤ begF zs := by unfold begF; (repeat' split) <;> omega
    have hz := List.length_pos_iff.2 h0
    rw [first_not (zs.take m) (fun z hz => h8 z (List.mem_of_mem_take hz)) (by
      intro h
      have := congrArg List.length h
      rw [List.length_take, List.length_nil] at this
      omega), beg_take zs m hm]
    intro n h1 h2 h3
    rw [List.length_take] at h3
    rw [List.take_take, Nat.min_eq_left (by omega)]
    exact hn n h1 h2 (by omega)
/-- What is settled is what all of it is read as. -/
theorem all_settled : ∀ (n : Nat) (zs : List Nat), zs.length ≤ n → (∀ z ∈ zs, z < 256) → allL (zs.take (sumB (rdL zs))) = (rdL zs).map (·.1)
  | 0, zs, hn, _ => by
    have : zs = [] := List.length_eq_zero_iff.1 (by omega)
    subst this
    rfl
  | n + 1, zs, hn, h8 => by
    cases hf : fullB zs with
    | false => rw [rdL_no zs hf]; rfl
    | true =>
      have hp := fullB_pos hf
      have hb := firstF_bd zs hp
      have hz : zs ≠ [] := List.length_pos_iff.1 hp
      rw [rdL_yes zs hf]
      have es : sumB (firstF zs :: rdL (zs.drop (firstF zs).2)) = (firstF zs).2 + sumB (rdL (zs.drop (firstF zs).2)) := by simp [sumB]
      rw [es]
      have ih := all_settled n (zs.drop (firstF zs).2) (by rw [List.length_drop]; omega) (fun z hz => h8 z (List.mem_of_mem_drop hz))
      have ht := first_take zs h8 hz ((firstF zs).2 + sumB (rdL (zs.drop (firstF zs).2))) (by omega)
      rw [all_step _ (fun z hz => h8 z (List.mem_of_mem_take hz)) (by
        intro h
        have := congrArg List.length h
        rw [List.length_take, List.length_nil] at this
        omega), ht, List.map_cons, ← ih, List.drop_take, Nat.add_sub_cancel_left]

end Go.Proofs.YtdhmpnjodcjjpaaDoor
