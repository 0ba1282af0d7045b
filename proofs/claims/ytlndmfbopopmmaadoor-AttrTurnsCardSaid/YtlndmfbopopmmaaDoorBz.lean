/- What 38 and 48 mean, plain: the document's way is the program's. -/
import Derived.Test.YtlndmfbopopmmaaDoorBc
namespace Go.Proofs.YtlndmfbopopmmaaDoor
open Go.RowKit

theorem drop_three (xs : List Int) (k : Nat) (h : xs.length = k + 3) : xs.drop k = [xs[k]?.getD 0, xs[k + 1]?.getD 0, xs[k + 2]?.getD 0] := by
  rw [List.drop_eq_getElem_cons (by omega), List.drop_eq_getElem_cons (by omega), List.drop_eq_getElem_cons (by omega), List.drop_eq_nil_of_le (by omega), List.getElem?_eq_getElem (by omega), List.getElem?_eq_getElem (by omega), List.getElem?_eq_getElem (by omega)]
  rfl
theorem drop_one (xs : List Int) (k : Nat) (h : xs.length = k + 1) : xs.drop k = [xs[k]?.getD 0] := by
  rw [List.drop_eq_getElem_cons (by omega), List.drop_eq_nil_of_le (by omega), List.getElem?_eq_getElem (by omega)]
  rfl
theorem color_one (c : Int × Int) (x : Int) : colorP c 1 [x] = if x < 256 then (1, most0Z x) else c := by
  unfold colorP partsOk foldC
  by_cases h : x < 256
  · rw [if_pos h, if_pos (by simp; omega)]
    simp
  · rw [if_neg h, if_neg (by simp; omega)]
theorem color_three (c : Int × Int) (x y z : Int) : colorP c 2 [x, y, z] = if z < 256 ∧ y < 256 ∧ x < 256 then (2, 65536 * most0Z x + 256 * most0Z y + most0Z z) else c := by
  unfold colorP partsOk foldC
  by_cases h : z < 256 ∧ y < 256 ∧ x < 256
  · rw [if_pos h, if_pos (by simp; omega)]
    simp
    omega
  · rw [if_neg h, if_neg (by simp; omega)]
theorem atZ_cons (g : List Int) (t : List (List Int)) : atZ (g :: t) 0 = hd0 g := rfl
theorem atZ_nil (k : Nat) : atZ [] k = 0 := by unfold atZ; rfl
theorem hd0_ge (g : List Int) : 0 ≤ hd0 g := by unfold hd0 most0Z; split <;> omega
theorem most0_hd0 (g : List Int) : most0Z (hd0 g) = hd0 g := by
  have := hd0_ge g
  unfold most0Z
  rw [if_neg (by omega)]
structure TE (c : Int × Int) (g : List Int) (t : List (List Int)) (T : (Int × Int) × Nat) (E : (Int × Int) × Bool × Nat) : Prop where
  k : T.1.1 = if E.2.1 = true then E.1.1 else c.1
  n : T.1.2 = if E.2.1 = true then E.1.2 else c.2
  d : t.drop (T.2 - 1) = (g :: t).drop E.2.2
theorem told_te (c : Int × Int) (g : List Int) (t : List (List Int)) : TE c g t (toldP c g t) (extP g t) := by
  unfold toldP extP
  by_cases h1 : 1 < g.length
  · rw [if_pos h1, if_pos h1]
    unfold withinP
    by_cases h5 : g[1]?.getD 0 = 5 ∧ g.length = 3
    · rw [if_pos h5, drop_one g 2 (by omega), color_one]
      have h2 : ¬ (g[1]?.getD 0 = 2 ∧ (g.length = 5 ∨ g.length = 6) ∧ g[g.length - 1]?.getD 0 < 256 ∧ g[g.length - 2]?.getD 0 < 256 ∧ g[g.length - 3]?.getD 0 < 256) := by omega
      by_cases hx : g[2]?.getD 0 < 256
      · rw [if_pos hx, if_pos ⟨h5.1, h5.2, hx⟩]
        exact ⟨rfl, rfl, rfl⟩
      · rw [if_neg hx, if_neg (fun h => hx h.2.2), if_neg h2]
        exact ⟨rfl, rfl, rfl⟩
    · have h5' : ¬ (g[1]?.getD 0 = 5 ∧ g.length = 3 ∧ g[2]?.getD 0 < 256) := fun h => h5 ⟨h.1, h.2.1⟩
      rw [if_neg h5, if_neg h5']
      by_cases h2 : g[1]?.getD 0 = 2 ∧ (g.length = 5 ∨ g.length = 6)
      · rw [if_pos h2, drop_three g (g.length - 3) (by omega), color_three, show g.length - 3 + 1 = g.length - 2 by omega, show g.length - 3 + 2 = g.length - 1 by omega]
        by_cases hx : g[g.length - 1]?.getD 0 < 256 ∧ g[g.length - 2]?.getD 0 < 256 ∧ g[g.length - 3]?.getD 0 < 256
        · rw [if_pos hx, if_pos ⟨h2.1, h2.2, hx⟩]
          exact ⟨rfl, rfl, rfl⟩
        · rw [if_neg hx, if_neg (fun h => hx h.2.2)]
          exact ⟨rfl, rfl, rfl⟩
      · rw [if_neg h2, if_neg (fun h => h2 ⟨h.1, h.2.1⟩)]
        exact ⟨rfl, rfl, rfl⟩
  · rw [if_neg h1, if_neg h1]
    cases t with
    | nil =>
      rw [atZ_nil, if_neg (by decide), if_neg (by decide)]
      exact ⟨rfl, rfl, rfl⟩
    | cons a t =>
      rw [atZ_cons]
      simp only [behindP]
      by_cases h5 : hd0 a = 5
      · simp only [h5, if_true]
        cases t with
        | nil => exact ⟨rfl, rfl, rfl⟩
        | cons b t =>
          have e : atZ (a :: b :: t) 1 = hd0 b := rfl
          rw [if_neg (by simp), e]
          show TE c g _ (colorP c 1 [hd0 b], 3) _
          rw [color_one, most0_hd0, decide_eq_true (show 1 < (a :: b :: t).length by simp), Bool.true_and]
          by_cases hb : hd0 b < 256
          · rw [if_pos hb, decide_eq_true hb]
            exact ⟨rfl, rfl, rfl⟩
          · rw [if_neg hb, decide_eq_false hb]
            exact ⟨rfl, rfl, rfl⟩
      · rw [if_neg h5, if_neg h5]
        by_cases h2 : hd0 a = 2
        · rw [if_pos h2, if_pos h2]
          match t with
          | [] => exact ⟨rfl, rfl, rfl⟩
          | [b] => exact ⟨rfl, rfl, rfl⟩
          | [b, d] => exact ⟨rfl, rfl, rfl⟩
          | b :: d :: f :: t =>
            have e1 : atZ (a :: b :: d :: f :: t) 1 = hd0 b := rfl
            have e2 : atZ (a :: b :: d :: f :: t) 2 = hd0 d := rfl
            have e3 : atZ (a :: b :: d :: f :: t) 3 = hd0 f := rfl
            rw [if_neg (by simp), e1, e2, e3]
            show TE c g _ (colorP c 2 [hd0 b, hd0 d, hd0 f], 5) _
            rw [color_three, most0_hd0, most0_hd0, most0_hd0, decide_eq_true (show 1 < (a :: b :: d :: f :: t).length by simp), decide_eq_true (show 2 < (a :: b :: d :: f :: t).length by simp), decide_eq_true (show 3 < (a :: b :: d :: f :: t).length by simp)]
            by_cases hx : hd0 f < 256 ∧ hd0 d < 256 ∧ hd0 b < 256
            · rw [if_pos hx, decide_eq_true hx.1, decide_eq_true hx.2.1, decide_eq_true hx.2.2]
              exact ⟨rfl, rfl, rfl⟩
            · have hd : (true && (true && (true && (decide (hd0 b < 256) && (decide (hd0 d < 256) && decide (hd0 f < 256)))))) = false := by
                rcases (by omega : ¬ hd0 b < 256 ∨ ¬ hd0 d < 256 ∨ ¬ hd0 f < 256) with h | h | h <;> simp [h]
              rw [if_neg hx, hd]
              exact ⟨rfl, rfl, rfl⟩
        · rw [if_neg h2, if_neg h2]
          exact ⟨rfl, rfl, rfl⟩
theorem told_ext (c : Int × Int) (g : List Int) (t : List (List Int)) : ((toldP c g t).1.1 = (if (extP g t).2.1 = true then (extP g t).1.1 else c.1) ∧ (toldP c g t).1.2 = (if (extP g t).2.1 = true then (extP g t).1.2 else c.2)) ∧ t.drop ((toldP c g t).2 - 1) = (g :: t).drop (extP g t).2.2 :=
  ⟨⟨(told_te c g t).k, (told_te c g t).n⟩, (told_te c g t).d⟩

end Go.Proofs.YtlndmfbopopmmaaDoor
