/- An attribute's numbers, plain: they are parsed to groups that turn any attribute to it. -/
import Derived.Test.YtlndmfbopopmmaaDoorBu
import Derived.Test.YtlndmfbopopmmaaDoorBt
namespace Go.Proofs.YtlndmfbopopmmaaDoor
open Go.RowKit

theorem numT_itoa {z : Int} (h : 0 ≤ z) : numT z = Lib.itoa z := by
  unfold numT
  rw [if_neg (by omega)]
def ones (xs : List Int) : List (List Int) := xs.map fun n => [n]
theorem textB_snoc1 (L : List (List Int)) (n : Int) (hL : L ≠ []) : textB (L ++ [[n]]) = textB L ++ 59 :: numT n := by
  cases L with
  | nil => exact absurd rfl hL
  | cons r t =>
    rw [List.cons_append, textB_cons, textB_cons, List.map_append, List.flatten_append, ← List.append_assoc]
    simp [rowB]
theorem layT_text (xs : List Int) : ∀ x : Int, 0 ≤ x → (∀ z ∈ xs, 0 ≤ z) → layT [] (x :: xs) = textB (ones (x :: xs)) := by
  refine snoc_ind (P := fun xs => ∀ x : Int, 0 ≤ x → (∀ z ∈ xs, 0 ≤ z) → layT [] (x :: xs) = textB (ones (x :: xs))) (fun x hx _ => ?_) (fun xs z ih x hx h => ?_) xs
  · show ([] : List UInt8) ++ Lib.itoa x = numT x
    rw [numT_itoa hx]
    rfl
  · have h1 := ih x hx (fun y hy => h y (by simp [hy]))
    have e : ones (x :: (xs ++ [z])) = ones (x :: xs) ++ [[z]] := by simp [ones]
    rw [e, textB_snoc1 _ _ (by simp [ones]), ← h1, numT_itoa (h z (by simp)), ← List.cons_append, layT_snoc]
    have hne : layT [] (x :: xs) ≠ [] := by
      rw [h1]
      intro e0
      cases xs with
      | nil =>
        have : numT x = [] := e0
        rw [numT_itoa hx] at this
        obtain ⟨u, rfl⟩ := Int.eq_ofNat_of_zero_le hx
        rw [Lib.itoa, if_neg (by omega)] at this
        exact dec_ne _ this
      | cons y ys =>
        have : textB (ones (x :: y :: ys)) = numT x ++ 59 :: textB (ones (y :: ys)) := by
          show textB ([x] :: [y] :: ones ys) = _
          rw [textB]
          · rfl
          · simp
        rw [this] at e0
        simp at e0
    rw [if_neg hne]
    simp
theorem flagNums_mem (f : Int) (k : Nat) : (∀ z ∈ flagNums f k, 1 ≤ z ∧ z ≤ 55) ∧ (flagNums f k).length ≤ 18 := by
  unfold flagNums
  refine ⟨fun z hz => ?_, ?_⟩
  · obtain ⟨r, hr, rfl⟩ := List.mem_map.1 hz
    have h1 := (List.mem_filter.1 hr).1
    have h2 := List.mem_of_mem_take h1
    have h3 : ∀ r ∈ turnsL, 1 ≤ r.1 ∧ r.1 ≤ 55 := by decide
    exact h3 r h2
  · have h1 := List.length_filter_le (fun r => bits .and .i64 f r.2.1 != 0) (turnsL.take k)
    have h2 : (turnsL.take k).length ≤ 18 := by rw [List.length_take]; exact Nat.min_le_right _ _
    simp only [List.length_map]
    omega
theorem numsP_mem (a : AT) (h : okAT a = true) : (∀ z ∈ numsP a, 0 ≤ z ∧ z ≤ 255) ∧ (numsP a).length ≤ 32 := by
  obtain ⟨h1, h2, _⟩ := okAT_parts.1 h
  obtain ⟨a1, a2⟩ := flagNums_mem a.fl 18
  obtain ⟨b1, b2⟩ := colNums_range 38 a.fk a.fn (by decide) h1
  obtain ⟨c1, c2⟩ := colNums_range 48 a.bk a.bn (by decide) h2
  unfold numsP
  refine ⟨fun z hz => ?_, ?_⟩
  · rcases List.mem_cons.1 hz with e | hz
    · omega
    · rcases List.mem_append.1 hz with hz | hz
      · rcases List.mem_append.1 hz with hz | hz
        · have := a1 z hz; omega
        · exact b1 z hz
      · exact c1 z hz
  · simp only [List.length_cons, List.length_append]
    omega
/-- What an attribute's text is parsed to. -/
theorem text_parsed (a : AT) (h : okAT a = true) : headL (layT [] (numsP a)) = true ∧ HZ (layT [] (numsP a)) = ones (numsP a) := by
  obtain ⟨h1, h2⟩ := numsP_mem a h
  have e : layT [] (numsP a) = textB (ones (numsP a)) := layT_text _ 0 (by decide) (fun z hz => (h1 z (by unfold numsP; exact List.mem_cons_of_mem _ hz)).1)
  have hm : ∀ r ∈ ones (numsP a), r ≠ [] ∧ r.length ≤ 8 ∧ ∀ z ∈ r, -1 ≤ z ∧ z ≤ 65535 := fun r hr => by
    obtain ⟨n, hn, rfl⟩ := List.mem_map.1 hr
    have := h1 n hn
    exact ⟨by simp, by simp, fun z hz => by simp at hz; omega⟩
  rw [e]
  exact ⟨text_head _ (fun r hr z hz => ((hm r hr).2.2 z hz).1), text_groups _ (by simp [ones, numsP]) (by unfold ones; rw [List.length_map]; exact h2) hm⟩
/-- Numbers of flags turn the flags alone. -/
theorem step_flagnum (x : AT) (n : Int) (t : List (List Int)) (h : n ∈ turnsL.map (·.1)) : stepP x [n] t = (⟨x.fk, x.fn, x.bk, x.bn, turnZ x.fl n⟩, 0) := by
  have hv : ∀ n ∈ turnsL.map (·.1), hd0 [n] = n ∧ n ≠ 0 ∧ n ≠ 38 ∧ n ≠ 48 ∧ flagN [n] = n ∧ ¬ (30 ≤ n ∧ n ≤ 37) ∧ ¬ (90 ≤ n ∧ n ≤ 97) ∧ n ≠ 39 ∧ ¬ (30 ≤ n - 10 ∧ n - 10 ≤ 37) ∧ ¬ (90 ≤ n - 10 ∧ n - 10 ≤ 97) ∧ n - 10 ≠ 39 := by decide
  obtain ⟨h1, h2, h3, h4, h5, k1, k2, k3, k4, k5, k6⟩ := hv n h
  rw [step_other x [n] t n h1 h2 h3 h4, h5]
  unfold namedK namedN
  rw [if_neg k1, if_neg k1, if_neg k2, if_neg k2, if_neg k3, if_neg k3, if_neg k4, if_neg k4, if_neg k5, if_neg k5, if_neg k6, if_neg k6]
theorem turn_flagnums : ∀ (ns : List Int) (x : AT) (t : List (List Int)), (∀ n ∈ ns, n ∈ turnsL.map (·.1)) → turnP x (ones ns ++ t) = turnP ⟨x.fk, x.fn, x.bk, x.bn, ns.foldl turnZ x.fl⟩ t
  | [], x, t, _ => rfl
  | n :: ns, x, t, h => by
    show turnP x ([n] :: (ones ns ++ t)) = _
    rw [turnP_cons, step_flagnum x n _ (h n (by simp))]
    exact turn_flagnums ns _ t (fun m hm => h m (by simp [hm]))
theorem fold_small : ∀ n : Fin 1024, okF ((n : Nat) : Int) = true → (flagNums ((n : Nat) : Int) 18).foldl turnZ 0 = ((n : Nat) : Int) := by decide +kernel
theorem turn_color (x : AT) (k n : Int) (t : List (List Int)) (h : colorB k n = true) (hx : x.fk = 0 ∧ x.fn = 0) : turnP x (ones (colNums 38 k n) ++ t) = turnP ⟨k, n, x.bk, x.bn, x.fl⟩ t := by
  unfold colNums
  by_cases h1 : k = 1
  · subst h1
    have hn : 0 ≤ n ∧ n ≤ 255 := by simpa [colorB] using h
    rw [if_pos rfl]
    show turnP x ([38] :: [5] :: [n] :: t) = _
    have hs : stepP x [38] ([5] :: [n] :: t) = (⟨(colorP (x.fk, x.fn) 1 [hd0 [n]]).1, (colorP (x.fk, x.fn) 1 [hd0 [n]]).2, x.bk, x.bn, x.fl⟩, 2) := rfl
    have e : hd0 [n] = n := by unfold hd0 most0Z; rw [if_neg (by show ¬ n < 0; omega)]; rfl
    rw [turnP_cons, hs, e, color_one, if_pos (by omega)]
    have e2 : most0Z n = n := if_neg (by omega)
    rw [e2]
    rfl
  · by_cases h2 : k = 2
    · subst h2
      have hn : 0 ≤ n ∧ n ≤ 16777215 := by simpa [colorB] using h
      rw [if_neg (by decide), if_pos rfl]
      show turnP x ([38] :: [2] :: [n / 65536] :: [n / 256 % 256] :: [n % 256] :: t) = _
      have hs : stepP x [38] ([2] :: [n / 65536] :: [n / 256 % 256] :: [n % 256] :: t) = (⟨(colorP (x.fk, x.fn) 2 [hd0 [n / 65536], hd0 [n / 256 % 256], hd0 [n % 256]]).1, (colorP (x.fk, x.fn) 2 [hd0 [n / 65536], hd0 [n / 256 % 256], hd0 [n % 256]]).2, x.bk, x.bn, x.fl⟩, 4) := rfl
      have e : ∀ m : Int, 0 ≤ m → hd0 [m] = m := fun m hm => by unfold hd0 most0Z; rw [if_neg (by show ¬ m < 0; omega)]; rfl
      have e2 : ∀ m : Int, 0 ≤ m → most0Z m = m := fun m hm => if_neg (by omega)
      rw [turnP_cons, hs, e _ (by omega), e _ (by omega), e _ (by omega), color_three, if_pos (by omega), e2 _ (by omega), e2 _ (by omega), e2 _ (by omega)]
      show turnP ⟨2, 65536 * (n / 65536) + 256 * (n / 256 % 256) + n % 256, x.bk, x.bn, x.fl⟩ t = _
      rw [show 65536 * (n / 65536) + 256 * (n / 256 % 256) + n % 256 = n by omega]
    · rw [if_neg h1, if_neg h2]
      have hz : k = 0 ∧ n = 0 := by
        unfold colorB at h
        rw [if_neg h1, if_neg h2] at h
        exact of_decide_eq_true h
      obtain ⟨rfl, rfl⟩ := hz
      show turnP x t = turnP ⟨0, 0, x.bk, x.bn, x.fl⟩ t
      cases x
      obtain ⟨e1, e2⟩ := hx
      simp at e1 e2
      rw [e1, e2]
theorem turn_colorB (x : AT) (k n : Int) (t : List (List Int)) (h : colorB k n = true) (hx : x.bk = 0 ∧ x.bn = 0) : turnP x (ones (colNums 48 k n) ++ t) = turnP ⟨x.fk, x.fn, k, n, x.fl⟩ t := by
  unfold colNums
  by_cases h1 : k = 1
  · subst h1
    have hn : 0 ≤ n ∧ n ≤ 255 := by simpa [colorB] using h
    rw [if_pos rfl]
    show turnP x ([48] :: [5] :: [n] :: t) = _
    have hs : stepP x [48] ([5] :: [n] :: t) = (⟨x.fk, x.fn, (colorP (x.bk, x.bn) 1 [hd0 [n]]).1, (colorP (x.bk, x.bn) 1 [hd0 [n]]).2, x.fl⟩, 2) := rfl
    have e : hd0 [n] = n := by unfold hd0 most0Z; rw [if_neg (by show ¬ n < 0; omega)]; rfl
    rw [turnP_cons, hs, e, color_one, if_pos (by omega)]
    have e2 : most0Z n = n := if_neg (by omega)
    rw [e2]
    rfl
  · by_cases h2 : k = 2
    · subst h2
      have hn : 0 ≤ n ∧ n ≤ 16777215 := by simpa [colorB] using h
      rw [if_neg (by decide), if_pos rfl]
      show turnP x ([48] :: [2] :: [n / 65536] :: [n / 256 % 256] :: [n % 256] :: t) = _
      have hs : stepP x [48] ([2] :: [n / 65536] :: [n / 256 % 256] :: [n % 256] :: t) = (⟨x.fk, x.fn, (colorP (x.bk, x.bn) 2 [hd0 [n / 65536], hd0 [n / 256 % 256], hd0 [n % 256]]).1, (colorP (x.bk, x.bn) 2 [hd0 [n / 65536], hd0 [n / 256 % 256], hd0 [n % 256]]).2, x.fl⟩, 4) := rfl
      have e : ∀ m : Int, 0 ≤ m → hd0 [m] = m := fun m hm => by unfold hd0 most0Z; rw [if_neg (by show ¬ m < 0; omega)]; rfl
      have e2 : ∀ m : Int, 0 ≤ m → most0Z m = m := fun m hm => if_neg (by omega)
      rw [turnP_cons, hs, e _ (by omega), e _ (by omega), e _ (by omega), color_three, if_pos (by omega), e2 _ (by omega), e2 _ (by omega), e2 _ (by omega)]
      show turnP ⟨x.fk, x.fn, 2, 65536 * (n / 65536) + 256 * (n / 256 % 256) + n % 256, x.fl⟩ t = _
      rw [show 65536 * (n / 65536) + 256 * (n / 256 % 256) + n % 256 = n by omega]
    · rw [if_neg h1, if_neg h2]
      have hz : k = 0 ∧ n = 0 := by
        unfold colorB at h
        rw [if_neg h1, if_neg h2] at h
        exact of_decide_eq_true h
      obtain ⟨rfl, rfl⟩ := hz
      show turnP x t = turnP ⟨x.fk, x.fn, 0, 0, x.fl⟩ t
      cases x
      obtain ⟨e1, e2⟩ := hx
      simp at e1 e2
      rw [e1, e2]
theorem flagNums_turns (f : Int) (k : Nat) : ∀ n ∈ flagNums f k, n ∈ turnsL.map (·.1) := fun n hn => by
  unfold flagNums at hn
  obtain ⟨r, hr, rfl⟩ := List.mem_map.1 hn
  exact List.mem_map.2 ⟨r, List.mem_of_mem_take (List.mem_filter.1 hr).1, rfl⟩
/-- An attribute's numbers turn any attribute to it. -/
theorem turn_back (x a : AT) (h : okAT a = true) : turnP x (ones (numsP a)) = a := by
  obtain ⟨h1, h2, h3⟩ := okAT_parts.1 h
  obtain ⟨f0, f1⟩ := okF_range h3
  have e : ones (numsP a) = [0] :: (ones (flagNums a.fl 18) ++ (ones (colNums 38 a.fk a.fn) ++ (ones (colNums 48 a.bk a.bn) ++ []))) := by
    simp [ones, numsP]
  have hs : ∀ t, stepP x [0] t = (AT.zero, 0) := fun t => rfl
  rw [e, turnP_cons, hs]
  show turnP AT.zero (ones (flagNums a.fl 18) ++ (ones (colNums 38 a.fk a.fn) ++ (ones (colNums 48 a.bk a.bn) ++ []))) = a
  rw [turn_flagnums _ _ _ (flagNums_turns a.fl 18)]
  have hf := fin_all (P := fun f => okF f = true → (flagNums f 18).foldl turnZ 0 = f) fold_small a.fl f0 f1 h3
  rw [show (AT.zero).fl = 0 from rfl, hf, turn_color _ _ _ _ h1 ⟨rfl, rfl⟩, turn_colorB _ _ _ _ h2 ⟨rfl, rfl⟩, turnP]

end Go.Proofs.YtlndmfbopopmmaaDoor
