/- Plain: texts laid and taken; lists of bytes as strings. -/
import Derived.Test.YtkkhlmilcdlfoaaDoorKa
import Derived.Lib.Strings
namespace Go.Proofs.YtkkhlmilcdlfoaaDoor
open Go.RowKit

def bsB (l : List UInt8) : ByteArray := ⟨l.toArray⟩
theorem bsB_app (l m : List UInt8) : bsB l ++ bsB m = bsB (l ++ m) := by
  apply ByteArray.ext
  simp [bsB]
theorem bsB_size (l : List UInt8) : (bsB l).size = l.length := by simp [bsB, ByteArray.size]
theorem bsB_inj {l m : List UInt8} : bsB l = bsB m ↔ l = m := by
  refine ⟨fun h => ?_, fun h => by rw [h]⟩
  have := congrArg (fun b => b.data.toList) h
  simpa [bsB] using this
theorem bs_toList (l : List UInt8) : (bsB l).toList = l := by
  rw [Lib.toList_data]
  simp [bsB]
theorem bs_list (l : List UInt8) : (bsB l).data.toList = l := rfl
theorem bs_of (s : ByteArray) : s = bsB s.data.toList := by
  apply ByteArray.ext
  simp [bsB]
theorem bs_extract (l : List UInt8) (i j : Nat) : (bsB l).extract i j = bsB ((l.drop i).take (j - i)) := by
  apply ByteArray.ext
  apply Array.toList_inj.1
  rw [ByteArray.data_extract, Array.toList_extract]
  simp [bsB, List.extract]
/-- A byte that is laid as it is. -/
def plB (c : UInt8) : Bool := decide (97 ≤ c.toNat ∧ c.toNat ≤ 122) || decide (65 ≤ c.toNat ∧ c.toNat ≤ 90) || decide (48 ≤ c.toNat ∧ c.toNat ≤ 57) || (c == 45 || c == 46 || c == 95 || c == 126 || c == 47)
/-- A hex digit's number. -/
def hexV (c : UInt8) : Option Nat :=
  if 48 ≤ c.toNat ∧ c.toNat ≤ 57 then some (c.toNat - 48) else if 97 ≤ c.toNat ∧ c.toNat ≤ 102 then some (c.toNat - 87) else if 65 ≤ c.toNat ∧ c.toNat ≤ 70 then some (c.toNat - 55) else none
/-- The byte that two hex digits are. -/
def hex2 (a b : UInt8) : Option UInt8 := match hexV a, hexV b with
  | some x, some y => some (UInt8.ofNat (16 * x + y))
  | _, _ => none
/-- The byte that a percent sign and two hex digits tell, where a text begins with these. -/
def pct1 : List UInt8 → Option UInt8
  | c :: a :: b :: _ => if c = 37 then hex2 a b else none
  | _ => none
/-- A capital hex digit. -/
def hexU (n : Nat) : UInt8 := if n < 10 then UInt8.ofNat (48 + n) else UInt8.ofNat (55 + n)
def lay1 (c : UInt8) : List UInt8 := if plB c then [c] else [37, hexU (c.toNat / 16), hexU (c.toNat % 16)]
def layL : List UInt8 → List UInt8
  | [] => []
  | c :: r => lay1 c ++ layL r
def takeL : List UInt8 → List UInt8
  | [] => []
  | c :: r => match pct1 (c :: r) with
    | some x => x :: takeL (r.drop 2)
    | none => c :: takeL r
termination_by s => s.length
decreasing_by
  all_goals simp
  all_goals omega
/-- Whether each percent sign has its digits. -/
def strictL : List UInt8 → Bool
  | [] => true
  | c :: r => (c != 37 || (pct1 (c :: r)).isSome) && strictL r
theorem hexV_lt {c : UInt8} {x : Nat} (h : hexV c = some x) : x < 16 := by
  unfold hexV at h
  split at h
  · have := Option.some.inj h; omega
  · split at h
    · have := Option.some.inj h; omega
    · split at h
      · have := Option.some.inj h; omega
      · cases h
theorem hexV_ne37 {c : UInt8} {x : Nat} (h : hexV c = some x) : c ≠ 37 := by
  rintro rfl
  revert h
  decide +revert
theorem hexU_V : ∀ n : Fin 16, hexV (hexU n.val) = some n.val := by decide
theorem hexV_U (n : Nat) (h : n < 16) : hexV (hexU n) = some n := hexU_V ⟨n, h⟩
theorem plB_37 : plB 37 = false := by decide
theorem layL_app (s t : List UInt8) : layL (s ++ t) = layL s ++ layL t := by
  induction s with
  | nil => rfl
  | cons c r ih => simp [layL, ih]
theorem takeL_cons (c : UInt8) (r : List UInt8) : takeL (c :: r) = match pct1 (c :: r) with | some x => x :: takeL (r.drop 2) | none => c :: takeL r := by
  rw [takeL]
theorem takeL_nil : takeL [] = [] := by rw [takeL]
theorem pct1_ne {c : UInt8} (h : c ≠ 37) (r : List UInt8) : pct1 (c :: r) = none := by
  unfold pct1
  split
  · rename_i e; injection e with e1 e2; rw [if_neg (by rw [← e1]; exact h)]
  · rfl
theorem lay1_take (c : UInt8) (t : List UInt8) : takeL (lay1 c ++ t) = c :: takeL t := by
  unfold lay1
  by_cases h : plB c = true
  · rw [if_pos h]
    have hc : c ≠ 37 := by rintro rfl; rw [plB_37] at h; cases h
    show takeL (c :: t) = _
    rw [takeL_cons, pct1_ne hc]
  · rw [if_neg h]
    show takeL (37 :: hexU (c.toNat / 16) :: hexU (c.toNat % 16) :: t) = _
    have hn : c.toNat < 256 := c.toNat_lt
    have h1 : pct1 (37 :: hexU (c.toNat / 16) :: hexU (c.toNat % 16) :: t) = some c := by
      show (if (37 : UInt8) = 37 then hex2 _ _ else none) = _
      rw [if_pos rfl]
      unfold hex2
      rw [hexV_U _ (by omega), hexV_U _ (by omega)]
      show some (UInt8.ofNat (16 * (c.toNat / 16) + c.toNat % 16)) = some c
      rw [Nat.div_add_mod, UInt8.ofNat_toNat]
    rw [takeL_cons, h1]
    rfl
theorem take_lay (s t : List UInt8) : takeL (layL s ++ t) = s ++ takeL t := by
  induction s with
  | nil => rfl
  | cons c r ih => show takeL ((lay1 c ++ layL r) ++ t) = _; rw [List.append_assoc, lay1_take, ih]; rfl
theorem take_lay0 (s : List UInt8) : takeL (layL s) = s := by
  have := take_lay s []
  rwa [takeL_nil, List.append_nil, List.append_nil] at this
theorem strict_skip {a b : UInt8} {x : UInt8} (h : hex2 a b = some x) (r : List UInt8) : strictL (a :: b :: r) = strictL r := by
  have ha : a ≠ 37 := by
    unfold hex2 at h
    split at h
    · rename_i h1 _; exact hexV_ne37 h1
    · cases h
  have hb : b ≠ 37 := by
    unfold hex2 at h
    split at h
    · rename_i _ h1; exact hexV_ne37 h1
    · cases h
  show ((a != 37 || (pct1 (a :: b :: r)).isSome) && ((b != 37 || (pct1 (b :: r)).isSome) && strictL r)) = strictL r
  rw [bne_iff_ne.2 ha, bne_iff_ne.2 hb]
  simp
theorem strict_lay (s : List UInt8) : strictL (layL s) = true := by
  induction s with
  | nil => rfl
  | cons c r ih =>
    show strictL (lay1 c ++ layL r) = true
    unfold lay1
    by_cases h : plB c = true
    · rw [if_pos h]
      have hc : c ≠ 37 := by rintro rfl; rw [plB_37] at h; cases h
      show ((c != 37 || _) && strictL (layL r)) = true
      rw [ih]; simp [hc]
    · rw [if_neg h]
      have hn : c.toNat < 256 := c.toNat_lt
      have h2 : hex2 (hexU (c.toNat / 16)) (hexU (c.toNat % 16)) = some c := by
        unfold hex2
        rw [hexV_U _ (by omega), hexV_U _ (by omega)]
        show some (UInt8.ofNat (16 * (c.toNat / 16) + c.toNat % 16)) = some c
        rw [Nat.div_add_mod, UInt8.ofNat_toNat]
      show ((37 != (37 : UInt8) || (pct1 (37 :: hexU (c.toNat / 16) :: hexU (c.toNat % 16) :: layL r)).isSome) && strictL (hexU (c.toNat / 16) :: hexU (c.toNat % 16) :: layL r)) = true
      rw [strict_skip h2, ih]
      show (_ || (if (37 : UInt8) = 37 then hex2 _ _ else none).isSome) && true = true
      rw [if_pos rfl, h2]; rfl
theorem layL_len (s : List UInt8) : (layL s).length ≤ 3 * s.length := by
  induction s with
  | nil => exact Nat.le_refl _
  | cons c r ih =>
    show (lay1 c ++ layL r).length ≤ _
    rw [List.length_append, List.length_cons]
    have : (lay1 c).length ≤ 3 := by unfold lay1; split <;> simp
    omega
theorem takeL_len : ∀ (n : Nat) (s : List UInt8), s.length ≤ n → (takeL s).length ≤ s.length
  | 0, s, h => by
    obtain rfl : s = [] := List.eq_nil_of_length_eq_zero (by omega)
    rw [takeL_nil]; exact Nat.le_refl _
  | n + 1, [], _ => by rw [takeL_nil]; exact Nat.le_refl _
  | n + 1, c :: r, h => by
    rw [takeL_cons]
    simp only [List.length_cons] at h
    split
    · have := takeL_len n (r.drop 2) (by rw [List.length_drop]; omega)
      rw [List.length_drop] at this
      simp only [List.length_cons]; omega
    · have := takeL_len n r (by omega)
      simp only [List.length_cons]; omega
end Go.Proofs.YtkkhlmilcdlfoaaDoor
