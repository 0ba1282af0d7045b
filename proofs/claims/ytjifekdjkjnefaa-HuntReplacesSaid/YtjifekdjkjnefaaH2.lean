/- Plain: a heap of needles, by the key of each one's next hit. -/
import Derived.Test.YtjifekdjkjnefaaH1
namespace Go.Proofs.Ytjifekdjkjnefaa
open Go.RowKit

/-- A needle: its number, and its places that are still to come. -/
abbrev Nd := Nat × List Nat
def kq (x : Nd) : Nat := x.2.head?.getD 0 * 1000 + x.1
def ndAt (L : List Nd) (i : Nat) : Nd := L[i]?.getD (0, [])
def ky (L : List Nd) (i : Nat) : Nat := kq (ndAt L i)
def swp (L : List Nd) (i j : Nat) : List Nd := (L.set i (ndAt L j)).set j (ndAt L i)
theorem swp_len (L : List Nd) (i j : Nat) : (swp L i j).length = L.length := by simp [swp]
theorem at_swp (L : List Nd) (i j k : Nat) (hi : i < L.length) (hj : j < L.length) : ndAt (swp L i j) k = if k = j then ndAt L i else if k = i then ndAt L j else ndAt L k := by
  by_cases hkj : k = j
  · subst hkj
    rw [if_pos rfl]
    show (((L.set i (ndAt L k)).set k (ndAt L i))[k]?).getD (0, []) = _
    rw [List.getElem?_set, if_pos rfl, if_pos (by simpa using hj)]
    rfl
  · rw [if_neg hkj]
    show (((L.set i (ndAt L j)).set j (ndAt L i))[k]?).getD (0, []) = _
    rw [List.getElem?_set, if_neg (fun e => hkj e.symm), List.getElem?_set]
    by_cases hki : k = i
    · subst hki
      rw [if_pos rfl, if_pos rfl, if_pos hi]
      rfl
    · rw [if_neg hki, if_neg (fun e => hki e.symm)]
      rfl
theorem ky_swp (L : List Nd) (i j k : Nat) (hi : i < L.length) (hj : j < L.length) : ky (swp L i j) k = if k = j then ky L i else if k = i then ky L j else ky L k := by
  unfold ky
  rw [at_swp L i j k hi hj]
  split
  · rfl
  · split <;> rfl
/-- The same needles, in another order: all that adds up is the same. -/
def SameN (L M : List Nd) : Prop := L.length = M.length ∧ ∀ f : Nd → Nat, (L.map f).sum = (M.map f).sum
theorem SameN.refl (L : List Nd) : SameN L L := ⟨rfl, fun _ => rfl⟩
theorem SameN.trans {L M K : List Nd} (h : SameN L M) (h2 : SameN M K) : SameN L K := ⟨h.1.trans h2.1, fun f => (h.2 f).trans (h2.2 f)⟩
theorem sum_set (f : Nd → Nat) (x : Nd) : ∀ (L : List Nd) (i : Nat), i < L.length → ((L.set i x).map f).sum + f (ndAt L i) = (L.map f).sum + f x
  | [], i, h => by simp at h
  | y :: t, 0, _ => by
    show f x + (t.map f).sum + f y = f y + (t.map f).sum + f x
    omega
  | y :: t, i + 1, h => by
    have := sum_set f x t i (by simpa using h)
    show f y + ((t.set i x).map f).sum + f (ndAt t i) = f y + (t.map f).sum + f x
    omega
theorem same_swp (L : List Nd) (i j : Nat) (hi : i < L.length) (hj : j < L.length) : SameN (swp L i j) L := by
  refine ⟨swp_len L i j, fun f => ?_⟩
  have h1 := sum_set f (ndAt L j) L i hi
  have h2 := sum_set f (ndAt L i) (L.set i (ndAt L j)) j (by simpa using hj)
  have h3 : ndAt (L.set i (ndAt L j)) j = ndAt L j := by
    by_cases e : i = j
    · subst e
      show ((L.set i (ndAt L i))[i]?).getD (0, []) = _
      rw [List.getElem?_set, if_pos rfl, if_pos hi]
      rfl
    · show ((L.set i (ndAt L j))[j]?).getD (0, []) = _
      rw [List.getElem?_set, if_neg e]
      rfl
  rw [h3] at h2
  show (((L.set i (ndAt L j)).set j (ndAt L i)).map f).sum = _
  omega
theorem same_all {L M : List Nd} (h : SameN L M) (P : Nd → Prop) (hP : ∀ x ∈ M, P x) : ∀ x ∈ L, P x := by
  intro x hx
  apply Classical.byContradiction
  intro hn
  have h1 := h.2 fun y => if y = x then 1 else 0
  have h2 : 0 < (L.map fun y => if y = x then 1 else 0).sum := by
    clear h1
    have : ∀ l : List Nd, x ∈ l → 0 < (l.map fun y => if y = x then 1 else 0).sum := by
      intro l
      induction l with
      | nil => intro h; simp at h
      | cons y t ih =>
        intro h
        rcases List.mem_cons.1 h with rfl | h
        · simp
          omega
        · have := ih h
          simp
          omega
    exact this L hx
  have h3 : ∀ l : List Nd, (∀ y ∈ l, P y) → (l.map fun y => if y = x then 1 else 0).sum = 0 := by
    intro l
    induction l with
    | nil => intro _; rfl
    | cons y t ih =>
      intro h
      have h4 := ih fun z hz => h z (List.mem_cons_of_mem _ hz)
      have h5 : y ≠ x := fun e => hn (e ▸ h y List.mem_cons_self)
      simp [h5]
      simpa using h4
  have h4 := h3 M hP
  omega
/-- In order, from parents lo on, among the first n. -/
def HP (n lo : Nat) (L : List Nd) : Prop := ∀ k, 0 < k → k < n → lo ≤ (k - 1) / 2 → ky L ((k - 1) / 2) ≤ ky L k
/-- In order but for i's children. -/
def DI (n lo i : Nat) (L : List Nd) : Prop := (∀ k, 0 < k → k < n → lo ≤ (k - 1) / 2 → (k - 1) / 2 ≠ i → ky L ((k - 1) / 2) ≤ ky L k) ∧ (0 < i → lo ≤ (i - 1) / 2 → ∀ k, 0 < k → k < n → (k - 1) / 2 = i → ky L ((i - 1) / 2) ≤ ky L k)
theorem DI.leaf {n lo i : Nat} {L : List Nd} (h : DI n lo i L) (hn : n ≤ 2 * i + 1) : HP n lo L := fun k h0 hk hl => h.1 k h0 hk hl (by omega)
theorem DI.done {n lo i j : Nat} {L : List Nd} (h : DI n lo i L) (h1 : 2 * i + 1 < n → ky L j ≤ ky L (2 * i + 1)) (h2 : 2 * i + 2 < n → ky L j ≤ ky L (2 * i + 2)) (hle : ky L i ≤ ky L j) : HP n lo L := by
  intro k h0 hk hl
  by_cases hp : (k - 1) / 2 = i
  · rw [hp]
    rcases (show k = 2 * i + 1 ∨ k = 2 * i + 2 by omega) with rfl | rfl
    · exact Nat.le_trans hle (h1 hk)
    · exact Nat.le_trans hle (h2 hk)
  · exact h.1 k h0 hk hl hp
theorem DI.step {n lo i j : Nat} {L : List Nd} (h : DI n lo i L) (hlo : lo ≤ i) (hn : n ≤ L.length) (hj : j = 2 * i + 1 ∨ j = 2 * i + 2) (hjn : j < n) (h1 : ky L j ≤ ky L (2 * i + 1)) (h2 : 2 * i + 2 < n → ky L j ≤ ky L (2 * i + 2)) (hlt : ky L j < ky L i) : DI n lo j (swp L i j) := by
  have hs := fun k => ky_swp L i j k (by omega) (by omega)
  refine ⟨fun k h0 hk hl hp => ?_, fun _ hl k h0 hk hp => ?_⟩
  · rw [hs, hs]
    by_cases hkj : k = j
    · subst hkj
      rw [if_neg (by omega), if_pos (by omega), if_pos rfl]
      omega
    · rw [if_neg hkj, if_neg hp]
      by_cases hki : k = i
      · subst hki
        rw [if_pos rfl, if_neg (by omega)]
        exact h.2 h0 hl j (by omega) hjn (by omega)
      · rw [if_neg hki]
        by_cases hpi : (k - 1) / 2 = i
        · rw [if_pos hpi]
          rcases (show k = 2 * i + 1 ∨ k = 2 * i + 2 by omega) with rfl | rfl
          · exact h1
          · exact h2 hk
        · rw [if_neg hpi]
          exact h.1 k h0 hk hl hpi
  · have hpj : (j - 1) / 2 = i := by omega
    rw [hs, hs, hpj, if_neg (by omega), if_pos rfl, if_neg (by omega), if_neg (by omega)]
    have := h.1 k h0 hk (by omega) (by omega)
    rwa [hp] at this
theorem HP.first (n : Nat) (L : List Nd) : HP n (n / 2) L := fun k h0 hk hl => by omega
theorem HP.next {n i : Nat} {L : List Nd} (h : HP n (i + 1) L) : DI n i i L := ⟨fun k h0 hk hl hp => h k h0 hk (by omega), fun h0 hl => by omega⟩
theorem HP.pop {n : Nat} {L : List Nd} (h : HP (n + 1) 0 L) (hl : L.length = n + 1) : DI n 0 0 (swp L 0 n) := by
  have hs := fun k => ky_swp L 0 n k (by omega) (by omega)
  refine ⟨fun k h0 hk _ hp => ?_, fun h0 => by omega⟩
  rw [hs, hs, if_neg (by omega), if_neg (by omega), if_neg (by omega), if_neg (by omega)]
  exact h k h0 (by omega) (by omega)
/-- In order but for j and its parent. -/
def UI (n j : Nat) (L : List Nd) : Prop := (∀ k, 0 < k → k < n → k ≠ j → ky L ((k - 1) / 2) ≤ ky L k) ∧ (0 < j → ∀ k, 0 < k → k < n → (k - 1) / 2 = j → ky L ((j - 1) / 2) ≤ ky L k)
theorem UI.done {n j : Nat} {L : List Nd} (h : UI n j L) (hj : j = 0 ∨ ky L ((j - 1) / 2) ≤ ky L j) : HP n 0 L := fun k h0 hk _ => by
  by_cases e : k = j
  · subst e
    rcases hj with hj | hj
    · omega
    · exact hj
  · exact h.1 k h0 hk e
theorem UI.step {n j : Nat} {L : List Nd} (h : UI n j L) (hn : n ≤ L.length) (hj : 0 < j) (hjn : j < n) (hlt : ky L j < ky L ((j - 1) / 2)) : UI n ((j - 1) / 2) (swp L ((j - 1) / 2) j) := by
  obtain ⟨i, hi⟩ : ∃ i, i = (j - 1) / 2 := ⟨_, rfl⟩
  rw [← hi] at hlt ⊢
  have hs := fun k => ky_swp L i j k (by omega) (by omega)
  refine ⟨fun k h0 hk hp => ?_, fun h0i k h0 hk hp => ?_⟩
  · rw [hs, hs]
    by_cases hkj : k = j
    · subst hkj
      rw [if_pos rfl, ← hi, if_neg (by omega), if_pos rfl]
      omega
    · rw [if_neg hkj, if_neg hp]
      by_cases hpj : (k - 1) / 2 = j
      · rw [if_pos hpj]
        have := h.2 hj k h0 hk hpj
        rwa [← hi] at this
      · rw [if_neg hpj]
        by_cases hpi : (k - 1) / 2 = i
        · rw [if_pos hpi]
          have := h.1 k h0 hk hkj
          rw [hpi] at this
          omega
        · rw [if_neg hpi]
          exact h.1 k h0 hk hkj
  · rw [hs, hs, if_neg (by omega), if_neg (by omega)]
    have h1 := h.1 i h0i (by omega) (by omega)
    by_cases hkj : k = j
    · rw [if_pos hkj]
      exact h1
    · rw [if_neg hkj, if_neg (by omega)]
      have h2 := h.1 k h0 hk hkj
      rw [hp] at h2
      omega
theorem HP.push {n : Nat} {L : List Nd} (h : HP n 0 L) (hl : L.length = n) (x : Nd) : UI (n + 1) n (L ++ [x]) := by
  have hk : ∀ k, k < n → ky (L ++ [x]) k = ky L k := fun k hk => by
    unfold ky ndAt
    rw [List.getElem?_append_left (by omega)]
  refine ⟨fun k h0 hkn hne => ?_, fun _ k h0 hkn hp => by omega⟩
  rw [hk k (by omega), hk _ (by omega)]
  exact h k h0 (by omega) (by omega)
/-- The first is the least. -/
theorem HP.least {n : Nat} {L : List Nd} (h : HP n 0 L) : ∀ k, k < n → ky L 0 ≤ ky L k := by
  intro k
  induction k using Nat.strongRecOn with
  | _ k ih =>
    intro hk
    rcases Nat.eq_zero_or_pos k with rfl | h0
    · exact Nat.le_refl _
    · exact Nat.le_trans (ih ((k - 1) / 2) (by omega) (by omega)) (h k h0 hk (Nat.zero_le _))

end Go.Proofs.Ytjifekdjkjnefaa
