/- Lines and places, plain: reflowed twice is reflowed at once; places stay in their order. -/
import Derived.Test.YtfjgfmeanehpmaaHa
namespace Go.Proofs.Ytfjgfmeanehpmaa

/-- The lines of some rows. -/
def grp : List Rw → List (List Rw)
  | [] => []
  | r :: t => (r :: t.takeWhile Rw.k) :: grp (t.dropWhile Rw.k)
termination_by L => L.length
decreasing_by
  have := (List.dropWhile_sublist Rw.k (l := t)).length_le
  simp
  omega
theorem grp_nil : grp [] = [] := by unfold grp; rfl
theorem grp_cons (r : Rw) (t : List Rw) : grp (r :: t) = (r :: t.takeWhile Rw.k) :: grp (t.dropWhile Rw.k) := by
  conv => lhs; unfold grp
/-- Where lines begin and end. -/
def offs : Nat → List (List Rw) → List (Nat × Nat)
  | _, [] => []
  | a, g :: gs => (a, a + g.length) :: offs (a + g.length) gs
def joinL : List (List Rw) → List Rw
  | [] => []
  | g :: gs => g ++ joinL gs
theorem grp_join : ∀ (m : Nat) (L : List Rw), L.length ≤ m → joinL (grp L) = L
  | _, [], _ => by rw [grp_nil]; rfl
  | m + 1, r :: t, h => by
    have := (List.dropWhile_sublist Rw.k (l := t)).length_le
    rw [grp_cons]
    show r :: t.takeWhile Rw.k ++ joinL (grp (t.dropWhile Rw.k)) = r :: t
    rw [grp_join m _ (by simp at h; omega), List.cons_append, List.takeWhile_append_dropWhile]
  | 0, _ :: _, h => by simp at h
theorem grp_ne : ∀ (m : Nat) (L : List Rw), L.length ≤ m → ∀ g ∈ grp L, g ≠ []
  | _, [], _ => by rw [grp_nil]; intro g h; cases h
  | m + 1, r :: t, h => by
    have := (List.dropWhile_sublist Rw.k (l := t)).length_le
    rw [grp_cons]
    intro g hg
    rcases List.mem_cons.1 hg with rfl | hg
    · simp
    · exact grp_ne m _ (by simp at h; omega) g hg
  | 0, _ :: _, h => by simp at h
theorem grp_mem (L : List Rw) : ∀ g ∈ grp L, g ≠ [] := grp_ne L.length L (Nat.le_refl _)
theorem grp_all (L : List Rw) : joinL (grp L) = L := grp_join L.length L (Nat.le_refl _)
/-- All lines, each split anew. -/
def newL (n : Nat) (g : List Rw) : List Rw := splitL n (flowL g)
def joinS (n : Nat) (gs : List (List Rw)) : List Rw := joinL (gs.map (newL n))
def reflowL (n : Nat) (L : List Rw) : List Rw := joinS n (grp L)
theorem takeWhile_all {T M : List Rw} (hT : ∀ r ∈ T, r.k = true) (hM : ∀ r, M.head? = some r → r.k = false) : (T ++ M).takeWhile Rw.k = T ∧ (T ++ M).dropWhile Rw.k = M := by
  induction T with
  | nil =>
    match M, hM with
    | [], _ => exact ⟨rfl, rfl⟩
    | r :: M, hM =>
      have := hM r rfl
      simp [this]
  | cons r T ih =>
    have h1 := hT r (by simp)
    have ih := ih (fun x hx => hT x (List.mem_cons_of_mem _ hx))
    simp [h1, ih.1, ih.2]
theorem joinS_head (n : Nat) (gs : List (List Rw)) : ∀ r, (joinS n gs).head? = some r → r.k = false := by
  match gs with
  | [] => intro r h; cases h
  | g :: gs =>
    obtain ⟨c, T, h1, _⟩ := lay_conts n (mendL (unpad (flowL g))) false []
    intro r h
    have h : ((newL n g) ++ joinS n gs).head? = some r := h
    unfold newL splitL at h
    rw [h1] at h
    simp at h
    rw [← h]
theorem grp_joinS (n : Nat) : ∀ gs : List (List Rw), grp (joinS n gs) = gs.map (newL n)
  | [] => grp_nil
  | g :: gs => by
    obtain ⟨c, T, h1, h2⟩ := lay_conts n (mendL (unpad (flowL g))) false []
    have hg : newL n g = ⟨c, false⟩ :: T := h1
    obtain ⟨e1, e2⟩ := takeWhile_all h2 (joinS_head n gs)
    show grp (newL n g ++ joinS n gs) = newL n g :: gs.map (newL n)
    rw [hg, List.cons_append, grp_cons, e1, e2, grp_joinS n gs]
theorem new_new (a b : Nat) (g : List Rw) : newL b (newL a g) = newL b g := by
  unfold newL
  rw [flow_again]
/-- Reflowed to any width, and from it to another one: as if reflowed at once. -/
theorem reflow_twice (a b : Nat) (L : List Rw) : reflowL b (reflowL a L) = reflowL b L := by
  unfold reflowL
  rw [grp_joinS]
  unfold joinS
  rw [List.map_map]
  congr 1
  apply List.map_congr_left
  intro g _
  exact new_new a b g

/-! Places. -/
def cnt (r : Rw) : Nat := (r.c.filter notPad).length
def pre (L : List Rw) (i : Nat) : Nat := ((L.take i).map cnt).sum
def offR : List Rw → Nat → Int → Nat
  | [], _, _ => 0
  | r :: _, 0, c => min c.toNat (cnt r)
  | r :: t, i + 1, c => cnt r + offR t i c
def placeR : List Rw → Nat → Nat × Nat
  | [], _ => (0, 0)
  | [r], o => (0, min o (cnt r))
  | r :: r' :: t, o => if o < cnt r then (0, o) else ((placeR (r' :: t) (o - cnt r)).1 + 1, (placeR (r' :: t) (o - cnt r)).2)
def Ar (L : List Rw) (i : Nat) : Rw := L[i]?.getD ⟨[], false⟩
theorem pre_zero (L : List Rw) : pre L 0 = 0 := rfl
theorem pre_succ (L : List Rw) (i : Nat) (h : i < L.length) : pre L (i + 1) = pre L i + cnt (Ar L i) := by
  unfold pre Ar
  rw [List.take_succ_eq_append_getElem h, List.getElem?_eq_getElem h, List.map_append, List.sum_append]
  simp only [List.map_cons, List.map_nil, List.sum_cons, List.sum_nil, Nat.add_zero, Option.getD_some]
theorem pre_cons (r : Rw) (t : List Rw) (i : Nat) : pre (r :: t) (i + 1) = cnt r + pre t i := by
  unfold pre
  simp
theorem pre_over (L : List Rw) (i : Nat) (h : L.length ≤ i) : pre L i = pre L L.length := by
  unfold pre
  rw [List.take_of_length_le h, List.take_length]
theorem pre_mono (L : List Rw) : ∀ i j, i ≤ j → pre L i ≤ pre L j := fun i j h => by
  induction j with
  | zero =>
    obtain rfl : i = 0 := by omega
    exact Nat.le_refl _
  | succ j ih =>
    rcases (by omega : i ≤ j ∨ i = j + 1) with h1 | rfl
    · refine Nat.le_trans (ih h1) ?_
      by_cases hj : j < L.length
      · rw [pre_succ L j hj]; omega
      · rw [pre_over L j (by omega), pre_over L (j + 1) (by omega)]; exact Nat.le_refl _
    · exact Nat.le_refl _
theorem offR_at : ∀ (L : List Rw) (i : Nat) (c : Int), i < L.length → offR L i c = pre L i + min c.toNat (cnt (Ar L i))
  | [], i, _, h => by simp at h
  | r :: t, 0, c, _ => by simp [offR, pre_zero, Ar]
  | r :: t, i + 1, c, h => by
    rw [pre_cons]
    show cnt r + offR t i c = cnt r + pre t i + min c.toNat (cnt (Ar t i))
    rw [offR_at t i c (by simpa using h)]
    omega
theorem offR_over : ∀ (L : List Rw) (i : Nat) (c : Int), L.length ≤ i → offR L i c = pre L L.length
  | [], _, _, _ => rfl
  | r :: t, 0, c, h => by simp at h
  | r :: t, i + 1, c, h => by
    rw [List.length_cons, pre_cons]
    show cnt r + offR t i c = _
    rw [offR_over t i c (by simpa using h)]
theorem placeR_at : ∀ (L : List Rw) (i o : Nat), i < L.length → pre L i ≤ o → (o < pre L (i + 1) ∨ i + 1 = L.length) → placeR L o = (i, min (o - pre L i) (cnt (Ar L i)))
  | [], i, _, h, _, _ => by simp at h
  | [r], i, o, h, _, _ => by
    obtain rfl : i = 0 := by simpa using h
    simp [placeR, pre_zero, Ar]
  | r :: r' :: t, 0, o, _, _, h => by
    have h1 : o < cnt r := by
      rcases h with h | h
      · rw [pre_cons, pre_zero] at h; omega
      · simp at h
    show (if o < cnt r then ((0, o) : Nat × Nat) else _) = (0, min (o - 0) (cnt r))
    rw [if_pos h1, Nat.sub_zero, Nat.min_eq_left (by omega)]
  | r :: r' :: t, i + 1, o, hi, hp, h => by
    rw [pre_cons] at hp
    have ih := placeR_at (r' :: t) i (o - cnt r) (by simpa using hi) (by omega) (by
      rcases h with h | h
      · rw [pre_cons] at h; exact .inl (by omega)
      · exact .inr (by simpa using h))
    show (if o < cnt r then ((0, o) : Nat × Nat) else ((placeR (r' :: t) (o - cnt r)).1 + 1, (placeR (r' :: t) (o - cnt r)).2)) = _
    rw [if_neg (by omega), ih, pre_cons, show o - cnt r - pre (r' :: t) i = o - (cnt r + pre (r' :: t) i) by omega]
    rfl
theorem placeR_lt : ∀ (L : List Rw) (o : Nat), L ≠ [] → (placeR L o).1 < L.length
  | [], _, h => absurd rfl h
  | [r], o, _ => by simp [placeR]
  | r :: r' :: t, o, _ => by
    unfold placeR
    split
    · simp
    · have := placeR_lt (r' :: t) (o - cnt r) (by simp)
      simp at this ⊢
      omega
def lexle (p q : Nat × Nat) : Prop := p.1 < q.1 ∨ p.1 = q.1 ∧ p.2 ≤ q.2
theorem placeR_mono : ∀ (L : List Rw) (o o' : Nat), o ≤ o' → lexle (placeR L o) (placeR L o')
  | [], o, o', _ => .inr ⟨rfl, Nat.le_refl _⟩
  | [r], o, o', h => .inr ⟨rfl, by simp [placeR]; omega⟩
  | r :: r' :: t, o, o', h => by
    unfold placeR
    by_cases h1 : o < cnt r
    · rw [if_pos h1]
      by_cases h2 : o' < cnt r
      · rw [if_pos h2]; exact .inr ⟨rfl, h⟩
      · rw [if_neg h2]; exact .inl (by simp)
    · rw [if_neg h1, if_neg (by omega)]
      rcases placeR_mono (r' :: t) (o - cnt r) (o' - cnt r) (by omega) with h2 | ⟨h2, h3⟩
      · exact .inl (by simp; omega)
      · exact .inr ⟨by simp; omega, h3⟩
theorem offR_le : ∀ (L : List Rw) (i : Nat) (c : Int), offR L i c ≤ pre L L.length
  | [], _, _ => Nat.le_refl _
  | r :: t, 0, c => by
    rw [List.length_cons, pre_cons]
    show min c.toNat (cnt r) ≤ _
    omega
  | r :: t, i + 1, c => by
    have := offR_le t i c
    rw [List.length_cons, pre_cons]
    show cnt r + offR t i c ≤ _
    omega
theorem offR_mono : ∀ (L : List Rw) (i j : Nat) (c d : Int), (i < j ∨ i = j ∧ c ≤ d) → offR L i c ≤ offR L j d
  | [], _, _, _, _, _ => Nat.le_refl _
  | r :: t, 0, 0, c, d, h => by
    have : c ≤ d := by omega
    show min c.toNat (cnt r) ≤ min d.toNat (cnt r)
    omega
  | r :: t, 0, j + 1, c, d, h => by
    show min c.toNat (cnt r) ≤ cnt r + offR t j d
    omega
  | r :: t, i + 1, 0, c, d, h => by omega
  | r :: t, i + 1, j + 1, c, d, h => by
    have := offR_mono t i j c d (by omega)
    show cnt r + offR t i c ≤ cnt r + offR t j d
    omega
/-- Where a place is when all lines are split anew. -/
def moveP (n : Nat) : List (List Rw) → Nat → Int → Nat × Nat
  | [], _, _ => (0, 0)
  | g :: gs, r, c => if r < g.length then placeR (newL n g) (offR g r c) else ((moveP n gs (r - g.length) c).1 + (newL n g).length, (moveP n gs (r - g.length) c).2)
theorem newL_ne (n : Nat) (g : List Rw) : newL n g ≠ [] := List.length_pos_iff.1 (lay_len n _ _ _).1
theorem moveP_mono (n : Nat) : ∀ (gs : List (List Rw)) (i j : Nat) (c d : Int), (i < j ∨ i = j ∧ c ≤ d) → lexle (moveP n gs i c) (moveP n gs j d)
  | [], _, _, _, _, _ => .inr ⟨rfl, Nat.le_refl _⟩
  | g :: gs, i, j, c, d, h => by
    unfold moveP
    by_cases h1 : i < g.length
    · rw [if_pos h1]
      by_cases h2 : j < g.length
      · rw [if_pos h2]
        exact placeR_mono _ _ _ (offR_mono g i j c d h)
      · rw [if_neg h2]
        have := placeR_lt (newL n g) (offR g i c) (newL_ne n g)
        exact .inl (by simp; omega)
    · rw [if_neg h1, if_neg (by omega)]
      rcases moveP_mono n gs (i - g.length) (j - g.length) c d (by omega) with h2 | ⟨h2, h3⟩
      · exact .inl (by simp; omega)
      · exact .inr ⟨by simp; omega, h3⟩
/-- A place of any row, in what the rows become. -/
def movedP (n : Nat) (L : List Rw) (row col : Int) : Nat × Nat := if row < 0 then (0, 0) else moveP n (grp L) row.toNat col
theorem movedP_mono (n : Nat) (L : List Rw) (i j c d : Int) (h : i < j ∨ i = j ∧ c ≤ d) : lexle (movedP n L i c) (movedP n L j d) := by
  unfold movedP
  by_cases h1 : i < 0
  · rw [if_pos h1]
    rcases Nat.eq_zero_or_pos (if j < 0 then (0, 0) else moveP n (grp L) j.toNat d).1 with h2 | h2
    · exact .inr ⟨h2.symm, Nat.zero_le _⟩
    · exact .inl h2
  · rw [if_neg h1, if_neg (by omega)]
    exact moveP_mono n (grp L) _ _ _ _ (by omega)
end Go.Proofs.Ytfjgfmeanehpmaa
