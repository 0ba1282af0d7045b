/- What is written is read as the sign, plain. -/
import Derived.Test.YtkkhlmilcdlfoaaDoorRl
import Derived.Test.YtkkhlmilcdlfoaaDoorSi
namespace Go.Proofs.YtkkhlmilcdlfoaaDoor
open Go.RowKit

theorem idx_at : ∀ (a r : List UInt8), 59 ∉ a → (a ++ 59 :: r).idxOf? 59 = some a.length
  | [], r, _ => by simp [List.idxOf?, List.findIdx?_cons]
  | c :: a, r, h => by
    have hc : c ≠ 59 := fun e => h (by rw [e]; exact List.mem_cons_self)
    have ih := idx_at a r (fun e => h (List.mem_cons_of_mem _ e))
    simp only [List.idxOf?, List.cons_append, List.findIdx?_cons] at ih ⊢
    rw [if_neg (by simpa using hc), ih]
    rfl
theorem idx_no : ∀ (a : List UInt8), 59 ∉ a → a.idxOf? 59 = none
  | [], _ => rfl
  | c :: a, h => by
    have hc : c ≠ 59 := fun e => h (by rw [e]; exact List.mem_cons_self)
    have ih := idx_no a (fun e => h (List.mem_cons_of_mem _ e))
    simp only [List.idxOf?, List.findIdx?_cons] at ih ⊢
    rw [if_neg (by simpa using hc), ih]
    rfl
theorem fld_at (a r : List UInt8) (h : 59 ∉ a) : fld1 (a ++ 59 :: r) = a := by
  unfold fld1; rw [idx_at a r h]; simp
theorem cut_at (a r : List UInt8) (h : 59 ∉ a) : cut1 (a ++ 59 :: r) = some r := by
  unfold cut1; rw [idx_at a r h]; simp
theorem fld_no (a : List UInt8) (h : 59 ∉ a) : fld1 a = a := by
  unfold fld1; rw [idx_no a h]
theorem cut_no (a : List UInt8) (h : 59 ∉ a) : cut1 a = none := by
  unfold cut1; rw [idx_no a h]; rfl
theorem from1_at (a r : List UInt8) (h : 59 ∉ a) : fromL (a ++ 59 :: r) 1 = some r := by
  show (some (a ++ 59 :: r)).bind cut1 = _
  exact cut_at a r h
theorem from2_at (a b r : List UInt8) (h : 59 ∉ a) (h' : 59 ∉ b) : fromL (a ++ 59 :: (b ++ 59 :: r)) 2 = some r := by
  show (fromL (a ++ 59 :: (b ++ 59 :: r)) 1).bind cut1 = _
  rw [from1_at _ _ h]
  exact cut_at b r h'
theorem escL_no (l : List UInt8) : 59 ∉ escL l := fun h => by
  have := escL_fine l 59 h
  revert this; decide
theorem numF_app (a b : List UInt8) : ∀ acc, numF acc (a ++ b) = numF (numF acc a) b := by
  induction a with
  | nil => intro acc; rfl
  | cons c r ih => intro acc; exact ih _
theorem dec_num (m : Nat) : numF 0 (Lib.decDigits m) = m := by
  induction m using Nat.strongRecOn with
  | _ m ih =>
    rw [Lib.decDigits]
    by_cases h : m < 10
    · rw [dif_pos h]
      show 0 * 10 + ((UInt8.ofNat (48 + m)).toNat - 48) = m
      rw [dec_byte _ (by omega)]; omega
    · rw [dif_neg h, numF_app, ih (m / 10) (by omega)]
      show m / 10 * 10 + ((UInt8.ofNat (48 + m % 10)).toNat - 48) = m
      rw [dec_byte _ (by omega)]; omega
theorem dec_dig (m : Nat) : (Lib.decDigits m).all isDig = true := by
  induction m using Nat.strongRecOn with
  | _ m ih =>
    rw [Lib.decDigits]
    by_cases h : m < 10
    · rw [dif_pos h]
      have e := dec_byte (48 + m) (by omega)
      simp only [List.all_cons, List.all_nil, Bool.and_true, isDig, e]
      simp; omega
    · rw [dif_neg h, List.all_append, ih (m / 10) (by omega)]
      have e := dec_byte (48 + m % 10) (by omega)
      simp only [List.all_cons, List.all_nil, Bool.and_true, isDig, e]
      simp; omega
theorem dec_ne (m : Nat) : Lib.decDigits m ≠ [] := by
  rw [Lib.decDigits]
  split <;> simp
theorem dec_len : ∀ (k m : Nat), m < 10 ^ (k + 1) → (Lib.decDigits m).length ≤ k + 1
  | 0, m, h => by rw [Lib.decDigits, dif_pos (by omega)]; exact Nat.le_refl _
  | k + 1, m, h => by
    rw [Lib.decDigits]
    split
    · simp
    · rw [List.length_append]
      have := dec_len k (m / 10) (by rw [Nat.pow_succ] at h; omega)
      simp only [List.length_cons, List.length_nil]; omega
theorem unsign_dec (m : Nat) : unsign (Lib.decDigits m) = Lib.decDigits m := by
  have h := dec_dig m
  cases hd : Lib.decDigits m with
  | nil => rfl
  | cons c r =>
    rw [hd] at h
    have hc : isDig c = true := by simp only [List.all_cons, Bool.and_eq_true] at h; exact h.1
    have : c ≠ 45 := fun e => by subst e; revert hc; decide
    unfold unsign
    split
    · rename_i e; injection e with e _; exact absurd e this
    · rfl
theorem codeZ_dec (m : Nat) : codeZ (Lib.decDigits m) = m := by
  have h := dec_dig m
  have hn := dec_num m
  cases hd : Lib.decDigits m with
  | nil => exact absurd hd (dec_ne m)
  | cons c r =>
    rw [hd] at h hn
    have hc : isDig c = true := by simp only [List.all_cons, Bool.and_eq_true] at h; exact h.1
    have : c ≠ 45 := fun e => by subst e; revert hc; decide
    unfold codeZ
    split
    · rename_i e; injection e with e _; exact absurd e this
    · rw [hn]
theorem isCode_of (l : List UInt8) (h1 : unsign l ≠ []) (h2 : (unsign l).length ≤ 9) (h3 : (unsign l).all isDig = true) : isCode l = true := by
  unfold isCode
  rw [decide_eq_true h2, h3]
  simpa using h1
theorem code_itoa (z : Int) (h0 : -999999999 ≤ z) (h1 : z ≤ 999999999) : codeP (Lib.itoa z) = (z, true) := by
  unfold codeP
  by_cases hz : z < 0
  · have e : Lib.itoa z = 45 :: Lib.decDigits z.natAbs := by unfold Lib.itoa; rw [if_pos hz]
    have hu : unsign (Lib.itoa z) = Lib.decDigits z.natAbs := by rw [e]; rfl
    rw [if_pos (isCode_of _ (by rw [hu]; exact dec_ne _) (by rw [hu]; exact dec_len 8 _ (by omega)) (by rw [hu]; exact dec_dig _))]
    rw [e]
    show (-(numF 0 (Lib.decDigits z.natAbs) : Int), true) = _
    rw [dec_num]
    congr 1; omega
  · have e : Lib.itoa z = Lib.decDigits z.toNat := by unfold Lib.itoa; rw [if_neg hz]
    have hu : unsign (Lib.itoa z) = Lib.decDigits z.toNat := by rw [e, unsign_dec]
    rw [if_pos (isCode_of _ (by rw [hu]; exact dec_ne _) (by rw [hu]; exact dec_len 8 _ (by omega)) (by rw [hu]; exact dec_dig _))]
    rw [e, codeZ_dec]
    congr 1; omega
theorem itoa_no (z : Int) : 59 ∉ Lib.itoa z := fun h => by
  have hd : ∀ m, 59 ∉ Lib.decDigits m := fun m hm => by
    have := List.all_eq_true.1 (dec_dig m) 59 hm
    revert this; decide
  unfold Lib.itoa at h
  split at h
  · rcases List.mem_cons.1 h with h | h
    · revert h; decide
    · exact hd _ h
  · exact hd _ h
theorem cut256_short (l : List UInt8) (h : l.length ≤ 256) : cut256 l = l := List.take_of_length_le h
theorem readV_mark (l : List UInt8) (h : fld1 l = [49, 51, 51] ∨ fld1 l = [54, 51, 51]) : readV l = shellV l (fld1 l) := by unfold readV; rw [if_pos h]
/-- What is written, is read as the sign. -/
theorem back1 : readV [49, 51, 51, 59, 65] = sgV 1 0 false ⟨#[]⟩ := by
  rw [readV_mark _ (.inl (by decide))]; unfold shellV; rw [if_pos (by decide)]
theorem back2 : readV [49, 51, 51, 59, 66] = sgV 2 0 false ⟨#[]⟩ := by
  rw [readV_mark _ (.inl (by decide))]; unfold shellV; rw [if_neg (by decide), if_pos (by decide)]
theorem back3 : readV [49, 51, 51, 59, 67] = sgV 3 0 false ⟨#[]⟩ := by
  rw [readV_mark _ (.inl (by decide))]; unfold shellV; rw [if_neg (by decide), if_neg (by decide), if_pos (by decide)]
theorem back4n : readV [49, 51, 51, 59, 68] = sgV 4 0 false ⟨#[]⟩ := by
  rw [readV_mark _ (.inl (by decide))]; unfold shellV; rw [if_neg (by decide), if_neg (by decide), if_neg (by decide), if_pos (by decide)]
  unfold doneV; rw [show codeP (third [49, 51, 51, 59, 68]) = (0, false) by decide]
theorem back4 (z : Int) (h0 : -999999999 ≤ z) (h1 : z ≤ 999999999) : readV ([49, 51, 51, 59, 68, 59] ++ Lib.itoa z) = sgV 4 z true ⟨#[]⟩ := by
  have e : ([49, 51, 51, 59, 68, 59] : List UInt8) ++ Lib.itoa z = [49, 51, 51] ++ 59 :: ([68] ++ 59 :: Lib.itoa z) := rfl
  rw [e]
  have hf : fld1 ([49, 51, 51] ++ 59 :: ([68] ++ 59 :: Lib.itoa z)) = [49, 51, 51] := fld_at _ _ (by decide)
  have hs : second ([49, 51, 51] ++ 59 :: ([68] ++ 59 :: Lib.itoa z)) = [68] := by
    unfold second behind; rw [from1_at _ _ (by decide)]; exact fld_at _ _ (by decide)
  have ht : third ([49, 51, 51] ++ 59 :: ([68] ++ 59 :: Lib.itoa z)) = Lib.itoa z := by
    unfold third; rw [from2_at _ _ _ (by decide) (by decide)]; exact fld_no _ (itoa_no z)
  rw [readV_mark _ (.inl hf)]
  unfold shellV
  rw [hs, if_neg (by decide), if_neg (by decide), if_neg (by decide), if_pos rfl]
  unfold doneV
  rw [ht, code_itoa z h0 h1]
theorem back5 (l : List UInt8) (hl : l.length ≤ 256) : readV ([54, 51, 51, 59, 69, 59] ++ escL l) = sgV 5 0 false (bsB l) := by
  have e : ([54, 51, 51, 59, 69, 59] : List UInt8) ++ escL l = [54, 51, 51] ++ 59 :: ([69] ++ 59 :: escL l) := rfl
  rw [e]
  have hf : fld1 ([54, 51, 51] ++ 59 :: ([69] ++ 59 :: escL l)) = [54, 51, 51] := fld_at _ _ (by decide)
  have hs : second ([54, 51, 51] ++ 59 :: ([69] ++ 59 :: escL l)) = [69] := by
    unfold second behind; rw [from1_at _ _ (by decide)]; exact fld_at _ _ (by decide)
  have h2 : fromL ([54, 51, 51] ++ 59 :: ([69] ++ 59 :: escL l)) 2 = some (escL l) := from2_at _ _ _ (by decide) (by decide)
  have ht : third ([54, 51, 51] ++ 59 :: ([69] ++ 59 :: escL l)) = escL l := by
    unfold third; rw [h2]; exact fld_no _ (escL_no l)
  rw [readV_mark _ (.inr hf)]
  unfold shellV
  rw [hs, hf, if_neg (by decide), if_neg (by decide), if_neg (by decide), if_neg (by decide), if_pos rfl]
  unfold toldV
  rw [if_pos ⟨rfl, by rw [h2]; rfl⟩, ht, unesc_esc, cut256_short l hl]
theorem back6 (l : List UInt8) (hl : l.length ≤ 256) : readV ([54, 51, 51, 59, 80, 59, 67, 119, 100, 61] ++ escL l) = sgV 6 0 false (bsB l) := by
  have e : ([54, 51, 51, 59, 80, 59, 67, 119, 100, 61] : List UInt8) ++ escL l = [54, 51, 51] ++ 59 :: ([80] ++ 59 :: ([67, 119, 100, 61] ++ escL l)) := rfl
  rw [e]
  have hno : 59 ∉ ([67, 119, 100, 61] : List UInt8) ++ escL l := fun h => by
    rcases List.mem_append.1 h with h | h
    · revert h; decide
    · exact escL_no l h
  have hf : fld1 ([54, 51, 51] ++ 59 :: ([80] ++ 59 :: ([67, 119, 100, 61] ++ escL l))) = [54, 51, 51] := fld_at _ _ (by decide)
  have hs : second ([54, 51, 51] ++ 59 :: ([80] ++ 59 :: ([67, 119, 100, 61] ++ escL l))) = [80] := by
    unfold second behind; rw [from1_at _ _ (by decide)]; exact fld_at _ _ (by decide)
  have ht : third ([54, 51, 51] ++ 59 :: ([80] ++ 59 :: ([67, 119, 100, 61] ++ escL l))) = [67, 119, 100, 61] ++ escL l := by
    unfold third; rw [from2_at _ _ _ (by decide) (by decide)]; exact fld_no _ hno
  rw [readV_mark _ (.inr hf)]
  unfold shellV
  rw [hs, hf, if_neg (by decide), if_neg (by decide), if_neg (by decide), if_neg (by decide), if_pos rfl]
  unfold toldV
  rw [if_neg (fun h => absurd h.1 (by decide)), ht, if_pos ⟨rfl, by simp [Lib.hasPrefix, cwdT, List.isPrefixOf]⟩]
  show sgV 6 0 false (bsB (cut256 (unescL (escL l)))) = _
  rw [unesc_esc, cut256_short l hl]
theorem back7 : readV [49, 51, 51, 55, 59, 83, 101, 116, 77, 97, 114, 107] = sgV 7 0 false ⟨#[]⟩ := by
  unfold readV
  rw [if_neg (by decide), if_neg (by decide), if_pos (by decide)]
  unfold commandV
  rw [if_pos (by decide)]
theorem back8 (l : List UInt8) (hl : l.length ≤ 256) : readV ([50, 59] ++ l) = sgV 8 0 false (bsB l) := by
  have e : ([50, 59] : List UInt8) ++ l = [50] ++ 59 :: l := rfl
  rw [e]
  have hf : fld1 ([50] ++ 59 :: l) = [50] := fld_at _ _ (by decide)
  have h1 : fromL ([50] ++ 59 :: l) 1 = some l := from1_at _ _ (by decide)
  unfold readV
  rw [hf, if_neg (by decide), if_neg (by decide), if_neg (by decide), if_pos (by decide)]
  unfold titleV behind
  rw [h1]
  show sgV 8 0 false (bsB (cut256 l)) = _
  rw [cut256_short l hl]
end Go.Proofs.YtkkhlmilcdlfoaaDoor
