/- Lines and their rows, plain: of each row the first one of its line; where its line's rows are when all are split anew. -/
import Derived.Test.YtfjgfmeanehpmaaLj
import Derived.Test.YtfjgfmeanehpmaaHl
namespace Go.Proofs.Ytfjgfmeanehpmaa
open Go.RowKit

theorem Ar_app_r (A B : List Rw) (i : Nat) : Ar (A ++ B) (A.length + i) = Ar B i := by
  unfold Ar; rw [List.getElem?_append_right (by omega), show A.length + i - A.length = i by omega]
theorem Ar_app_l (A B : List Rw) (i : Nat) (h : i < A.length) : Ar (A ++ B) i = Ar A i := by
  unfold Ar; rw [List.getElem?_append_left h]
theorem tw_k (t : List Rw) (i : Nat) (h : i < (t.takeWhile Rw.k).length) : (Ar (t.takeWhile Rw.k) i).k = true := by
  have hm : Ar (t.takeWhile Rw.k) i ∈ t.takeWhile Rw.k := by
    unfold Ar; rw [List.getElem?_eq_getElem h]; exact List.getElem_mem h
  exact List.all_eq_true.1 (List.all_takeWhile (p := Rw.k) (l := t)) _ hm
theorem dw_k (t : List Rw) (h : 0 < (t.dropWhile Rw.k).length) : (Ar (t.dropWhile Rw.k) 0).k = false := by
  induction t with
  | nil => simp at h
  | cons r t ih =>
    rw [List.dropWhile_cons] at h ⊢
    by_cases hr : r.k = true
    · rw [if_pos hr] at h ⊢; exact ih h
    · rw [if_neg hr]
      show r.k = false
      simpa using hr
/-- Of a line the rows behind the first go on; the first doesn't, but at the beginning; nor does the one behind the line. -/
theorem grp_rows : ∀ (m : Nat) (L : List Rw), L.length ≤ m → ∀ (j : Nat) (g : List Rw), (grp L)[j]? = some g →
    (∀ r, (joinL ((grp L).take j)).length < r → r < (joinL ((grp L).take j)).length + g.length → (Ar L r).k = true) ∧
    (j ≠ 0 → (Ar L (joinL ((grp L).take j)).length).k = false) ∧ ((joinL ((grp L).take j)).length + g.length < L.length → (Ar L ((joinL ((grp L).take j)).length + g.length)).k = false)
  | _, [], _, j, g, h => by rw [grp_nil] at h; simp at h
  | 0, _ :: _, hm, _, _, _ => by simp at hm
  | m + 1, x :: t, hm, j, g, h => by
    have hdl := (List.dropWhile_sublist Rw.k (l := t)).length_le
    have hL : x :: t = (x :: t.takeWhile Rw.k) ++ t.dropWhile Rw.k := by rw [List.cons_append, List.takeWhile_append_dropWhile]
    have hlen : (x :: t.takeWhile Rw.k).length = (t.takeWhile Rw.k).length + 1 := rfl
    rw [grp_cons] at h ⊢
    cases j with
    | zero =>
      obtain rfl : x :: t.takeWhile Rw.k = g := by simpa using h
      show (∀ r, 0 < r → r < 0 + (x :: t.takeWhile Rw.k).length → _) ∧ (0 ≠ 0 → _) ∧ (0 + (x :: t.takeWhile Rw.k).length < _ → (Ar (x :: t) (0 + (x :: t.takeWhile Rw.k).length)).k = false)
      refine ⟨fun r h1 h2 => ?_, fun h => absurd rfl h, fun h2 => ?_⟩
      · obtain ⟨r', rfl⟩ : ∃ r', r = r' + 1 := ⟨r - 1, by omega⟩
        rw [hL, Ar_app_l _ _ _ (by omega)]
        exact tw_k t r' (by omega)
      · conv => lhs; rw [hL]
        rw [Nat.zero_add, show (x :: t.takeWhile Rw.k).length = (x :: t.takeWhile Rw.k).length + 0 from rfl, Ar_app_r]
        refine dw_k t ?_
        rw [hL, List.length_append] at h2
        omega
    | succ j =>
      have ih := grp_rows m (t.dropWhile Rw.k) (by simp at hm; omega) j g (by simpa using h)
      have e : joinL (((x :: t.takeWhile Rw.k) :: grp (t.dropWhile Rw.k)).take (j + 1)) = (x :: t.takeWhile Rw.k) ++ joinL ((grp (t.dropWhile Rw.k)).take j) := rfl
      rw [e, List.length_append]
      obtain ⟨i1, i2, i3⟩ := ih
      have h00 : j = 0 → (joinL ((grp (t.dropWhile Rw.k)).take j)).length = 0 := fun e => by subst e; rfl
      generalize (joinL ((grp (t.dropWhile Rw.k)).take j)).length = s at *
      refine ⟨fun r h1 h2 => ?_, fun _ => ?_, fun h2 => ?_⟩
      · obtain ⟨r', rfl⟩ : ∃ r', r = (x :: t.takeWhile Rw.k).length + r' := ⟨r - (x :: t.takeWhile Rw.k).length, by omega⟩
        rw [hL, Ar_app_r]
        exact i1 r' (by omega) (by omega)
      · rw [hL, Ar_app_r]
        by_cases hj : j = 0
        · have hs0 := h00 hj
          subst hs0
          refine dw_k t ?_
          have : grp (t.dropWhile Rw.k) ≠ [] := fun e => by rw [e] at h; simp at h
          rcases Nat.eq_zero_or_pos (t.dropWhile Rw.k).length with h0 | h0
          · rw [List.eq_nil_of_length_eq_zero h0, grp_nil] at this; exact absurd rfl this
          · exact h0
        · exact i2 hj
      · rw [hL, Nat.add_assoc, Ar_app_r]
        refine i3 ?_
        rw [hL, List.length_append] at h2
        omega
theorem lineOf_inR (L : List Rw) (a : Nat) (ha : a = 0 ∨ (Ar L a).k = false) : ∀ k, a ≤ k → (∀ j, a < j → j ≤ k → (Ar L j).k = true) → lineOf L k = a
  | 0, h, _ => by
    obtain rfl : a = 0 := by omega
    rfl
  | k + 1, h, hj => by
    unfold lineOf
    rcases Nat.lt_or_ge a (k + 1) with h1 | h1
    · rw [if_pos (hj (k + 1) h1 (Nat.le_refl _)), lineOf_inR L a ha k (by omega) (fun j h2 h3 => hj j h2 (by omega))]
    · obtain rfl : a = k + 1 := by omega
      rcases ha with h2 | h2
      · omega
      · rw [if_neg (by rw [h2]; decide)]
/-- The first row of a row's line. -/
theorem line_at (L : List Rw) (j : Nat) (g : List Rw) (h : (grp L)[j]? = some g) (r : Nat) (h1 : (joinL ((grp L).take j)).length ≤ r) (h2 : r < (joinL ((grp L).take j)).length + g.length) : lineOf L r = (joinL ((grp L).take j)).length := by
  obtain ⟨i1, i2, _⟩ := grp_rows L.length L (Nat.le_refl _) j g h
  refine lineOf_inR L _ ?_ r h1 fun q q1 q2 => i1 q q1 (by omega)
  by_cases hj : j = 0
  · subst hj; exact .inl rfl
  · exact .inr (i2 hj)
/-- Of each old row where its line begins among the new ones; where it ends. -/
def begL (m : Nat) : Nat → List (List Rw) → List Nat
  | _, [] => []
  | a, g :: gs => List.replicate g.length a ++ begL m (a + (newL m g).length) gs
def endL (m : Nat) : Nat → List (List Rw) → List Nat
  | _, [] => []
  | a, g :: gs => List.replicate g.length (a + (newL m g).length) ++ endL m (a + (newL m g).length) gs
theorem joinS_cons (m : Nat) (g : List Rw) (gs : List (List Rw)) : joinS m (g :: gs) = newL m g ++ joinS m gs := rfl
theorem begL_app (m : Nat) (b : List (List Rw)) : ∀ (l : List (List Rw)) (a : Nat), begL m a (l ++ b) = begL m a l ++ begL m (a + (joinS m l).length) b
  | [], a => by show _ = [] ++ begL m (a + 0) b; rfl
  | g :: l, a => by
    show List.replicate g.length a ++ begL m (a + (newL m g).length) (l ++ b) = _
    rw [begL_app m b l, joinS_cons, List.length_append, ← Nat.add_assoc, ← List.append_assoc]
    rfl
theorem endL_app (m : Nat) (b : List (List Rw)) : ∀ (l : List (List Rw)) (a : Nat), endL m a (l ++ b) = endL m a l ++ endL m (a + (joinS m l).length) b
  | [], a => by show _ = [] ++ endL m (a + 0) b; rfl
  | g :: l, a => by
    show List.replicate g.length (a + (newL m g).length) ++ endL m (a + (newL m g).length) (l ++ b) = _
    rw [endL_app m b l, joinS_cons, List.length_append, ← Nat.add_assoc, ← List.append_assoc]
    rfl
theorem take_snocG (G : List (List Rw)) (k : Nat) (g : List Rw) (h : G[k]? = some g) : G.take (k + 1) = G.take k ++ [g] := by
  obtain ⟨hk, e⟩ := List.getElem?_eq_some_iff.1 h
  rw [List.take_succ_eq_append_getElem hk, e]
theorem begL_snoc (m : Nat) (G : List (List Rw)) (k : Nat) (g : List Rw) (h : G[k]? = some g) : begL m 0 (G.take (k + 1)) = begL m 0 (G.take k) ++ List.replicate g.length (joinS m (G.take k)).length := by
  rw [take_snocG G k g h, begL_app, Nat.zero_add]
  show _ ++ (List.replicate g.length _ ++ []) = _
  rw [List.append_nil]
theorem endL_snoc (m : Nat) (G : List (List Rw)) (k : Nat) (g : List Rw) (h : G[k]? = some g) : endL m 0 (G.take (k + 1)) = endL m 0 (G.take k) ++ List.replicate g.length ((joinS m (G.take k)).length + (newL m g).length) := by
  rw [take_snocG G k g h, endL_app, Nat.zero_add]
  show _ ++ (List.replicate g.length _ ++ []) = _
  rw [List.append_nil]
theorem begL_len (m : Nat) : ∀ (l : List (List Rw)) (a : Nat), (begL m a l).length = (joinL l).length
  | [], _ => rfl
  | g :: l, a => by
    show (List.replicate g.length a ++ begL m _ l).length = (g ++ joinL l).length
    rw [List.length_append, List.length_append, List.length_replicate, begL_len m l]
theorem endL_len (m : Nat) : ∀ (l : List (List Rw)) (a : Nat), (endL m a l).length = (joinL l).length
  | [], _ => rfl
  | g :: l, a => by
    show (List.replicate g.length _ ++ endL m _ l).length = (g ++ joinL l).length
    rw [List.length_append, List.length_append, List.length_replicate, endL_len m l]
theorem begL_at (m : Nat) : ∀ (gs : List (List Rw)) (j : Nat) (g : List Rw) (r a : Nat), gs[j]? = some g → (joinL (gs.take j)).length ≤ r → r < (joinL (gs.take j)).length + g.length → (begL m a gs)[r]? = some (a + (joinS m (gs.take j)).length) ∧ (endL m a gs)[r]? = some (a + (joinS m (gs.take j)).length + (newL m g).length)
  | [], j, g, r, a, h, _, _ => by simp at h
  | x :: gs, 0, g, r, a, h, _, h2 => by
    obtain rfl : x = g := by simpa using h
    have h2 : r < 0 + x.length := h2
    show (List.replicate x.length a ++ _)[r]? = some (a + 0) ∧ (List.replicate x.length (a + (newL m x).length) ++ _)[r]? = some (a + 0 + (newL m x).length)
    rw [List.getElem?_append_left (by rw [List.length_replicate]; omega), List.getElem?_append_left (by rw [List.length_replicate]; omega)]
    simp [List.getElem?_replicate]; omega
  | x :: gs, j + 1, g, r, a, h, h1, h2 => by
    have e : joinL ((x :: gs).take (j + 1)) = x ++ joinL (gs.take j) := rfl
    rw [e, List.length_append] at h1 h2
    obtain ⟨i1, i2⟩ := begL_at m gs j g (r - x.length) (a + (newL m x).length) (by simpa using h) (by omega) (by omega)
    have e2 : joinS m ((x :: gs).take (j + 1)) = newL m x ++ joinS m (gs.take j) := rfl
    rw [e2, List.length_append]
    show (List.replicate x.length a ++ begL m _ gs)[r]? = _ ∧ (List.replicate x.length _ ++ endL m _ gs)[r]? = _
    rw [List.getElem?_append_right (by rw [List.length_replicate]; omega), List.getElem?_append_right (by rw [List.length_replicate]; omega), List.length_replicate, List.length_replicate, i1, i2]
    simp only [Option.some.injEq]
    omega
/-- The first place of a line that is split anew is where it begins. -/
theorem lay_zero (n : Nat) (h2 : 2 ≤ n) : ∀ (l : List CC) (k : Bool) (cur : List CC), (∀ x ∈ cur, notPad x = true) → (∀ x ∈ l, notPad x = true) → placeR (lay n k cur l) 0 = (0, 0)
  | [], k, cur, _, _ => by
    unfold lay
    show (0, min 0 _) = (0, 0)
    rw [Nat.zero_min]
  | x :: t, k, cur, hc, hl => by
    have hx : notPad x = true := hl x (by simp)
    have ht : ∀ y ∈ t, notPad y = true := fun y hy => hl y (List.mem_cons_of_mem _ hy)
    have pz : ∀ (r : Rw) (M : List Rw), 0 < cnt r → placeR (r :: M) 0 = (0, 0) := fun r M h => by
      cases M with
      | nil => show (0, min 0 _) = (0, 0); rw [Nat.zero_min]
      | cons a M => show (if 0 < cnt r then (0, 0) else _) = _; rw [if_pos h]
    unfold lay
    split
    · rename_i h
      refine pz _ _ ?_
      unfold cnt
      rw [List.filter_append, filter_self hc, List.length_append]
      omega
    · split
      · rename_i _ h
        refine pz _ _ ?_
        unfold cnt
        show 0 < (cur.filter notPad).length
        rw [filter_self hc]; omega
      · refine lay_zero n h2 t k (cur ++ [x]) (fun y hy => ?_) ht
        rcases List.mem_append.1 hy with hy | hy
        · exact hc y hy
        · rw [List.mem_singleton.1 hy]; exact hx
theorem newL_zero (n : Nat) (h2 : 2 ≤ n) (g : List Rw) : placeR (newL n g) 0 = (0, 0) := by
  have h := flow_noPad g
  unfold newL splitL
  rw [unpad_noPad h]
  exact lay_zero n h2 _ _ _ (fun x hx => by cases hx) (mend_noPad _ h)
theorem offR_zero (g : List Rw) : offR g 0 0 = 0 := by
  cases g with
  | nil => rfl
  | cons r t => show min (0 : Int).toNat _ = 0; simp
theorem moveP_zero (n : Nat) (h2 : 2 ≤ n) (gs : List (List Rw)) (hne : ∀ g ∈ gs, g ≠ []) : moveP n gs 0 0 = (0, 0) := by
  cases gs with
  | nil => rfl
  | cons g gs =>
    have hg := List.length_pos_iff.2 (hne g (by simp))
    show (if 0 < g.length then _ else _) = _
    rw [if_pos hg, offR_zero, newL_zero n h2]
/-- The new rows of a line. -/
theorem new_cut (m : Nat) (G : List (List Rw)) (j : Nat) (g : List Rw) (h : G[j]? = some g) : ((joinS m G).take ((joinS m (G.take j)).length + (newL m g).length)).drop (joinS m (G.take j)).length = newL m g := by
  have hj := join_cut (G.map (newL m)) j (newL m g) (by simp [h])
  have e : (G.map (newL m)).take j = (G.take j).map (newL m) := (List.map_take ..).symm
  rw [e] at hj
  exact hj
theorem new_le (m : Nat) (G : List (List Rw)) (j : Nat) (g : List Rw) (h : G[j]? = some g) : (joinS m (G.take j)).length + (newL m g).length ≤ (joinS m G).length := by
  have hj := join_le (G.map (newL m)) j (newL m g) (by simp [h])
  have e : (G.map (newL m)).take j = (G.take j).map (newL m) := (List.map_take ..).symm
  rw [e] at hj
  exact hj
/-- Where a place of a line's is. -/
theorem moved_in (m : Nat) (G : List (List Rw)) (j : Nat) (g : List Rw) (r : Nat) (c : Int) (h : G[j]? = some g) (h1 : (joinL (G.take j)).length ≤ r) (h2 : r < (joinL (G.take j)).length + g.length) :
    moveP m G r c = ((joinS m (G.take j)).length + (placeR (newL m g) (offR g (r - (joinL (G.take j)).length) c)).1, (placeR (newL m g) (offR g (r - (joinL (G.take j)).length) c)).2) := by
  rw [moveP_at m G j g r c h h1 h2]
  have e : (G.map (newL m)).take j = (G.take j).map (newL m) := (List.map_take ..).symm
  rw [e]
  rfl
end Go.Proofs.Ytfjgfmeanehpmaa
