/- The text of groups: plain facts: it is parsed to them. -/
import Derived.Test.YtlolbfbkoimjkaaDoorPk
import Derived.Lib.ItoaLen
namespace Go.Proofs.YtlolbfbkoimjkaaDoor
open Go.RowKit

def numT (z : Int) : List UInt8 := if z = -1 then [] else Lib.itoa z
def sepT (i j : Nat) : List UInt8 := if 0 < j then [58] else if 0 < i then [59] else []
/-- The row i's text, as it is written. -/
def rowT (i : Nat) (r : List Int) : List UInt8 := (r.zipIdx.map fun p => sepT i p.2 ++ numT p.1).flatten
def textT (L : List (List Int)) : List UInt8 := (L.zipIdx.map fun p => rowT p.2 p.1).flatten
def accT (D : List (List Int)) (P : List Int) : List UInt8 := textT D ++ rowT D.length P
set_option maxRecDepth 100000 in
theorem rowT_snoc (i : Nat) (r : List Int) (z : Int) : rowT i (r ++ [z]) = rowT i r ++ sepT i r.length ++ numT z := by
  simp [rowT, List.zipIdx_append]
set_option maxRecDepth 100000 in
theorem textT_snoc (D : List (List Int)) (P : List Int) : textT (D ++ [P]) = accT D P := by
  simp [textT, accT, List.zipIdx_append]
set_option maxRecDepth 100000 in
theorem accT_snoc (D : List (List Int)) (P : List Int) (z : Int) : accT D (P ++ [z]) = accT D P ++ sepT D.length P.length ++ numT z := by
  unfold accT
  rw [rowT_snoc]
  simp
set_option maxRecDepth 100000 in
theorem accT_step (D : List (List Int)) (P : List Int) : accT (D ++ [P]) [] = accT D P := by
  rw [accT, textT_snoc]
  simp [rowT]
set_option maxRecDepth 100000 in
theorem accT_nil : accT [] [] = [] := rfl
set_option maxRecDepth 100000 in
theorem snoc_ind {α : Type} {P : List α → Prop} (h0 : P []) (h1 : ∀ l x, P l → P (l ++ [x])) (l : List α) : P l := by
  have key : ∀ l : List α, P l.reverse := fun l => by
    induction l with
    | nil => exact h0
    | cons x t ih => rw [List.reverse_cons]; exact h1 _ _ ih
  have := key l.reverse
  rwa [List.reverse_reverse] at this
set_option maxRecDepth 100000 in
theorem sepT_len (i j : Nat) : (sepT i j).length ≤ 1 := by unfold sepT; split <;> (try split) <;> simp
set_option maxRecDepth 100000 in
theorem rowT_len (i : Nat) (r : List Int) : (∀ z ∈ r, (numT z).length ≤ 21) → (rowT i r).length ≤ r.length * 22 := by
  refine snoc_ind (P := fun r => (∀ z ∈ r, (numT z).length ≤ 21) → (rowT i r).length ≤ r.length * 22) (fun _ => by simp [rowT]) (fun r z ih h => ?_) r
  rw [rowT_snoc]
  simp only [List.length_append, List.length_singleton]
  have := sepT_len i r.length
  have := h z (by simp)
  have := ih (fun z hz => h z (by simp [hz]))
  omega
set_option maxRecDepth 100000 in
theorem textT_len (L : List (List Int)) : (∀ r ∈ L, r.length ≤ 8 ∧ ∀ z ∈ r, (numT z).length ≤ 21) → (textT L).length ≤ L.length * 176 := by
  refine snoc_ind (P := fun L => (∀ r ∈ L, r.length ≤ 8 ∧ ∀ z ∈ r, (numT z).length ≤ 21) → (textT L).length ≤ L.length * 176) (fun _ => by simp [textT]) (fun L r ih h => ?_) L
  rw [textT_snoc, accT, List.length_append]
  have h1 := ih (fun r hr => h r (by simp [hr]))
  have h3 := h r (by simp)
  have h2 := rowT_len L.length r h3.2
  simp only [List.length_append, List.length_singleton]
  omega
set_option maxRecDepth 100000 in
theorem accT_len (D : List (List Int)) (P : List Int) (hr : ∀ r ∈ D, r.length ≤ 8 ∧ ∀ z ∈ r, (numT z).length ≤ 21) (hP : ∀ z ∈ P, (numT z).length ≤ 21) : (accT D P).length ≤ D.length * 176 + P.length * 22 := by
  unfold accT
  rw [List.length_append]
  have h1 := textT_len D hr
  have h2 := rowT_len D.length P hP
  omega

set_option maxRecDepth 100000 in
/-- The digits of a number from 0 on. -/
theorem dec_byte (u : Nat) (h : u < 10) : (UInt8.ofNat (48 + u)).toNat = 48 + u := by
  rw [UInt8.toNat_ofNat']
  omega
set_option maxRecDepth 100000 in
theorem dec_digits (u : Nat) : ∀ x ∈ Lib.decDigits u, 48 ≤ x.toNat ∧ x.toNat ≤ 57 := by
  induction u using Nat.strongRecOn with
  | _ u ih =>
    intro x hx
    rw [Lib.decDigits] at hx
    by_cases h : u < 10
    · rw [dif_pos h] at hx
      simp only [List.mem_singleton] at hx
      rw [hx, dec_byte u h]
      omega
    · rw [dif_neg h] at hx
      rcases List.mem_append.1 hx with h1 | h1
      · exact ih (u / 10) (by omega) x h1
      · simp only [List.mem_singleton] at h1
        rw [h1, dec_byte _ (by omega)]
        omega
set_option maxRecDepth 100000 in
theorem dec_ne (u : Nat) : Lib.decDigits u ≠ [] := by
  rw [Lib.decDigits]
  split <;> simp
set_option maxRecDepth 100000 in
theorem dec_num (u : Nat) (h : u ≤ 65535) : numD (Lib.decDigits u) = u := by
  induction u using Nat.strongRecOn with
  | _ u ih =>
    rw [Lib.decDigits]
    by_cases h1 : u < 10
    · rw [dif_pos h1]
      have := dec_byte u h1
      simp only [numD, List.foldl_cons, List.foldl_nil, this]
      omega
    · rw [dif_neg h1, numD_snoc, ih (u / 10) (by omega) (by omega), dec_byte _ (by omega)]
      omega
set_option maxRecDepth 100000 in
theorem numT_digits {z : Int} (h : -1 ≤ z) : ∀ x ∈ numT z, 48 ≤ x.toNat ∧ x.toNat ≤ 57 := fun x hx => by
  unfold numT at hx
  split at hx
  · simp at hx
  · obtain ⟨u, rfl⟩ := Int.eq_ofNat_of_zero_le (show 0 ≤ z by omega)
    rw [Lib.itoa, if_neg (by omega)] at hx
    exact dec_digits _ x hx
set_option maxRecDepth 100000 in
theorem numT_num {z : Int} (h : -1 ≤ z) (h1 : z ≤ 65535) : numZ (numT z) = z := by
  unfold numT
  split
  · rename_i h2; rw [h2]; rfl
  · obtain ⟨u, rfl⟩ := Int.eq_ofNat_of_zero_le (show 0 ≤ z by omega)
    rw [Lib.itoa, if_neg (by omega), numZ, if_neg (dec_ne _), Int.toNat_natCast, dec_num u (by omega)]
set_option maxRecDepth 100000 in
theorem numT_out {z : Int} (h : -1 ≤ z) (c : UInt8) (hc : 58 ≤ c.toNat) : c ∉ numT z := fun hm => by
  have := (numT_digits h c hm).2
  omega

/-- A row's, and rows', text by its first. -/
def rowB : List Int → List UInt8
  | [] => []
  | [v] => numT v
  | v :: r => numT v ++ 58 :: rowB r
def textB : List (List Int) → List UInt8
  | [] => []
  | [r] => rowB r
  | r :: L => rowB r ++ 59 :: textB L
set_option maxRecDepth 100000 in
theorem rowT_cons (i : Nat) (v : Int) (r : List Int) : rowT i (v :: r) = sepT i 0 ++ numT v ++ (r.map fun z => 58 :: numT z).flatten := by
  have key : ∀ (r : List Int) (k : Nat), 0 < k → ((r.zipIdx k).map fun p => sepT i p.2 ++ numT p.1) = r.map fun z => 58 :: numT z := fun r => by
    induction r with
    | nil => intro k _; rfl
    | cons z t ih =>
      intro k hk
      rw [List.zipIdx_cons, List.map_cons, List.map_cons, ih (k + 1) (by omega)]
      congr 1
      show sepT i k ++ numT z = _
      rw [sepT, if_pos hk]
      rfl
  rw [rowT, List.zipIdx_cons, List.map_cons, List.flatten_cons, key r 1 (by omega)]
set_option maxRecDepth 100000 in
theorem rowB_cons : ∀ (v : Int) (r : List Int), rowB (v :: r) = numT v ++ (r.map fun z => 58 :: numT z).flatten
  | v, [] => by simp [rowB]
  | v, z :: t => by
    rw [rowB, rowB_cons z t]
    · simp
    · simp
set_option maxRecDepth 100000 in
theorem rowT_rowB (i : Nat) (r : List Int) (h : r ≠ []) : rowT i r = sepT i 0 ++ rowB r := by
  cases r with
  | nil => exact absurd rfl h
  | cons v t => rw [rowT_cons, rowB_cons, List.append_assoc]
set_option maxRecDepth 100000 in
theorem textB_cons : ∀ (r : List Int) (L : List (List Int)), textB (r :: L) = rowB r ++ (L.map fun z => 59 :: rowB z).flatten
  | r, [] => by simp [textB]
  | r, z :: t => by
    rw [textB, textB_cons z t]
    · simp
    · simp
set_option maxRecDepth 100000 in
theorem textT_textB (L : List (List Int)) (h : ∀ r ∈ L, r ≠ []) : textT L = textB L := by
  have key : ∀ (L : List (List Int)) (k : Nat), 0 < k → (∀ r ∈ L, r ≠ []) → ((L.zipIdx k).map fun p => rowT p.2 p.1) = L.map fun z => 59 :: rowB z := fun L => by
    induction L with
    | nil => intro k _ _; rfl
    | cons r t ih =>
      intro k hk h
      rw [List.zipIdx_cons, List.map_cons, List.map_cons, ih (k + 1) (by omega) (fun r hr => h r (List.mem_cons_of_mem _ hr))]
      congr 1
      show rowT k r = _
      rw [rowT_rowB k r (h r List.mem_cons_self), sepT, if_neg (by omega), if_pos hk]
      rfl
  cases L with
  | nil => rfl
  | cons r t =>
    rw [textB_cons, textT, List.zipIdx_cons, List.map_cons, List.flatten_cons, key t 1 (by omega) (fun r hr => h r (List.mem_cons_of_mem _ hr))]
    congr 1
    show rowT 0 r = _
    rw [rowT_rowB 0 r (h r List.mem_cons_self)]
    rfl
set_option maxRecDepth 100000 in
theorem split_row : ∀ (r : List Int), r ≠ [] → (∀ z ∈ r, -1 ≤ z) → splitB 58 (rowB r) = r.map numT
  | [], h, _ => absurd rfl h
  | [v], _, hz => by
    rw [rowB, split_none 58 _ (numT_out (hz v (by simp)) 58 (by decide))]
    rfl
  | v :: z :: t, _, hz => by
    rw [rowB, split_mid 58 _ _ (numT_out (hz v (by simp)) 58 (by decide)), split_row (z :: t) (by simp) (fun x hx => hz x (List.mem_cons_of_mem _ hx))]
    · rfl
    · simp
set_option maxRecDepth 100000 in
theorem rowB_in : ∀ (r : List Int), (∀ z ∈ r, -1 ≤ z) → ∀ x ∈ rowB r, 48 ≤ x.toNat ∧ x.toNat ≤ 58
  | [], _, x, hx => by simp [rowB] at hx
  | [v], hz, x, hx => by
    have := numT_digits (hz v (by simp)) x hx
    omega
  | v :: z :: t, hz, x, hx => by
    rw [rowB] at hx
    · rcases List.mem_append.1 hx with h | h
      · have := numT_digits (hz v (by simp)) x h
        omega
      · rcases List.mem_cons.1 h with h | h
        · subst h; decide
        · exact rowB_in (z :: t) (fun x hx => hz x (List.mem_cons_of_mem _ hx)) x h
    · simp
set_option maxRecDepth 100000 in
theorem split_text : ∀ (L : List (List Int)), L ≠ [] → (∀ r ∈ L, ∀ z ∈ r, -1 ≤ z) → splitB 59 (textB L) = L.map rowB
  | [], h, _ => absurd rfl h
  | [r], _, hz => by
    rw [textB, split_none 59 _ (fun hm => by have h1 := (rowB_in r (hz r (by simp)) 59 hm).2; revert h1; decide)]
    rfl
  | r :: z :: t, _, hz => by
    rw [textB, split_mid 59 _ _ (fun hm => by have h1 := (rowB_in r (hz r (by simp)) 59 hm).2; revert h1; decide), split_text (z :: t) (by simp) (fun x hx => hz x (List.mem_cons_of_mem _ hx))]
    · rfl
    · simp
set_option maxRecDepth 100000 in
theorem text_head : ∀ (L : List (List Int)), (∀ r ∈ L, ∀ z ∈ r, -1 ≤ z) → headL (textB L) = true
  | [], _ => rfl
  | [r], hz => by
    refine List.all_eq_true.2 fun x hx => ?_
    rw [textB] at hx
    have := rowB_in r (hz r (by simp)) x hx
    simp [headB]
    omega
  | r :: z :: t, hz => by
    rw [textB]
    · rw [headL_join, text_head (z :: t) (fun x hx => hz x (List.mem_cons_of_mem _ hx)), Bool.and_true]
      refine List.all_eq_true.2 fun x hx => ?_
      have := rowB_in r (hz r (by simp)) x hx
      simp [headB]
      omega
    · simp
set_option maxRecDepth 100000 in
theorem text_groups (L : List (List Int)) (h0 : L ≠ []) (h32 : L.length ≤ 32) (hr : ∀ r ∈ L, r ≠ [] ∧ r.length ≤ 8 ∧ ∀ z ∈ r, -1 ≤ z ∧ z ≤ 65535) : HZ (textB L) = L := by
  unfold HZ GZ
  rw [split_text L h0 (fun r h z hz => ((hr r h).2.2 z hz).1), List.take_of_length_le (by rw [List.length_map, List.length_map]; exact h32), List.map_map, List.map_map]
  conv => rhs; rw [← List.map_id L]
  refine List.map_congr_left fun r h => ?_
  obtain ⟨h1, h2, h3⟩ := hr r h
  show ((splitB 58 (rowB r)).map numZ).take 8 = r
  rw [split_row r h1 (fun z hz => (h3 z hz).1), List.map_map, ← List.map_take, List.take_of_length_le h2]
  conv => rhs; rw [← List.map_id r]
  refine List.map_congr_left fun z hz => ?_
  exact numT_num (h3 z hz).1 (h3 z hz).2
set_option maxRecDepth 100000 in
theorem cleanL_all (l : List (List Int)) : ∀ r ∈ cleanL l, r ≠ [] ∧ r.length ≤ 8 ∧ ∀ z ∈ r, -1 ≤ z ∧ z ≤ 65535 := fun r hr => by
  have h := cleanL_rows l r hr
  refine ⟨fun e => by rw [e] at h; simp at h, h.2, ?_⟩
  unfold cleanL at hr
  split at hr
  · simp at hr
    subst hr
    simp
  · obtain ⟨g, _, rfl⟩ := List.mem_map.1 hr
    unfold rowZ
    split
    · simp
    · intro z hz
      obtain ⟨v, _, rfl⟩ := List.mem_map.1 hz
      unfold clampV
      omega
set_option maxRecDepth 100000 in
theorem itoa_len (z : Int) (h0 : -9223372036854775808 ≤ z) (h1 : z ≤ 9223372036854775807) : (numT z).length ≤ 21 := by
  unfold numT
  split
  · simp
  · exact Lib.itoa_length_le z h0 h1

end Go.Proofs.YtlolbfbkoimjkaaDoor
