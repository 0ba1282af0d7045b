/- A head's numbers: plain facts: pieces of a text, the number of digits, groups. -/
import Derived.Test.YtmmkcfjncpcabaaDoorKa
import Derived.Lib.IndexMore
import Derived.Lib.IndexLaws
import Derived.Lib.IndexBytes
import Derived.Lib.SlTrimSet
namespace Go.Proofs.YtmmkcfjncpcabaaDoor
open Go.RowKit

/-- The pieces of bytes, with c between. -/
def splitB (c : UInt8) : List UInt8 → List (List UInt8)
  | [] => [[]]
  | x :: r => if x = c then [] :: splitB c r else match splitB c r with
    | [] => [[x]]
    | g :: gs => (x :: g) :: gs
theorem splitB_ne (c : UInt8) (l : List UInt8) : splitB c l ≠ [] := by
  cases l with
  | nil => simp [splitB]
  | cons x r =>
    unfold splitB
    split
    · simp
    · split <;> simp
theorem split_mid (c : UInt8) : ∀ (a r : List UInt8), c ∉ a → splitB c (a ++ c :: r) = a :: splitB c r
  | [], r, _ => by simp [splitB]
  | x :: a, r, h => by
    have hx : x ≠ c := fun e => h (by simp [e])
    have ih := split_mid c a r (fun e => h (by simp [e]))
    rw [List.cons_append, splitB, if_neg hx, ih]
theorem split_none (c : UInt8) : ∀ (l : List UInt8), c ∉ l → splitB c l = [l]
  | [], _ => rfl
  | x :: r, h => by
    have hx : x ≠ c := fun e => h (by simp [e])
    rw [splitB, if_neg hx, split_none c r (fun e => h (by simp [e]))]
/-- What Cut tells of a piece. -/
theorem cut_split (c : UInt8) (l : List UInt8) :
    (Lib.cut l [c]).2.2 = true ∧ splitB c l = (Lib.cut l [c]).1 :: splitB c (Lib.cut l [c]).2.1 ∨ (Lib.cut l [c]).2.2 = false ∧ splitB c l = [l] ∧ (Lib.cut l [c]).1 = l ∧ (Lib.cut l [c]).2.1 = [] := by
  unfold Lib.cut
  rw [Lib.index_one]
  by_cases h : 0 ≤ Lib.indexByte l c
  · rw [if_pos h]
    obtain ⟨o, ho⟩ := Int.eq_ofNat_of_zero_le h
    obtain ⟨h1, h2⟩ := Lib.indexByte_some (l := l) (c := c) (o := o) ho
    refine .inl ⟨rfl, ?_⟩
    simp only [ho, Int.toNat_natCast, List.length_singleton]
    have hlt : o < l.length := by
      rcases Nat.lt_or_ge o l.length with h | h
      · exact h
      · rw [List.getElem?_eq_none h] at h1; simp at h1
    have hsp : l = l.take o ++ c :: l.drop (o + 1) := by
      have e := List.take_append_drop o l
      rw [List.drop_eq_getElem_cons hlt] at e
      rw [List.getElem?_eq_getElem hlt] at h1
      have : l[o] = c := by simpa using h1
      rw [this] at e
      exact e.symm
    conv => lhs; rw [hsp]
    refine split_mid c _ _ (fun hm => ?_)
    obtain ⟨k, hk, e⟩ := List.mem_iff_getElem.1 hm
    have hko : k < o := by simp at hk; omega
    refine h2 k hko ?_
    rw [List.getElem_take] at e
    rw [List.getElem?_eq_getElem (by omega), e]
  · rw [if_neg h]
    have hn : Lib.indexByte l c = -1 := by have := Lib.indexByte_ge l c; omega
    refine .inr ⟨rfl, split_none c l (fun hm => ?_), rfl, rfl⟩
    obtain ⟨k, hk, e⟩ := List.mem_iff_getElem.1 hm
    exact Lib.indexByte_none hn k (by rw [List.getElem?_eq_getElem hk, e])
def modLast {α : Type} (f : α → α) : List α → List α
  | [] => []
  | [x] => [f x]
  | x :: y :: r => x :: modLast f (y :: r)
theorem modLast_snoc {α : Type} (f : α → α) : ∀ (l : List α) (x : α), modLast f (l ++ [x]) = l ++ [f x]
  | [], _ => rfl
  | [y], x => rfl
  | y :: z :: r, x => by
    show y :: modLast f ((z :: r) ++ [x]) = _
    rw [modLast_snoc f (z :: r) x]
    rfl
theorem modLast_map {α β : Type} (f : α → α) (g : β → β) (h : α → β) (hfg : ∀ a, h (f a) = g (h a)) : ∀ l : List α, (modLast f l).map h = modLast g (l.map h)
  | [] => rfl
  | [x] => by simp [modLast, hfg]
  | x :: y :: r => by
    show h x :: (modLast f (y :: r)).map h = h x :: modLast g ((y :: r).map h)
    rw [modLast_map f g h hfg (y :: r)]
theorem split_snoc (c : UInt8) : ∀ (l : List UInt8) (x : UInt8), splitB c (l ++ [x]) = if x = c then splitB c l ++ [[]] else modLast (· ++ [x]) (splitB c l)
  | [], x => by
    by_cases h : x = c <;> simp [splitB, h, modLast]
  | y :: r, x => by
    have ih := split_snoc c r x
    rw [List.cons_append, splitB, splitB]
    by_cases hy : y = c
    · rw [if_pos hy, if_pos hy, ih]
      by_cases hx : x = c
      · rw [if_pos hx, if_pos hx]; rfl
      · rw [if_neg hx, if_neg hx]
        have hne := splitB_ne c r
        generalize splitB c r = s at *
        match s, hne with
        | g :: gs, _ => rfl
    · rw [if_neg hy, if_neg hy, ih]
      have hne := splitB_ne c r
      generalize splitB c r = s at *
      by_cases hx : x = c
      · rw [if_pos hx, if_pos hx]
        match s, hne with
        | g :: gs, _ => rfl
      · rw [if_neg hx, if_neg hx]
        match s, hne with
        | [g], _ => rfl
        | g :: g' :: gs, _ => rfl
theorem split_in (c : UInt8) : ∀ (l : List UInt8), ∀ g ∈ splitB c l, ∀ x ∈ g, x ∈ l
  | [], g, hg, x, hx => by simp [splitB] at hg; subst hg; simp at hx
  | y :: r, g, hg, x, hx => by
    have ih := split_in c r
    unfold splitB at hg
    by_cases hy : y = c
    · rw [if_pos hy] at hg
      rcases List.mem_cons.1 hg with h | h
      · subst h; simp at hx
      · exact List.mem_cons_of_mem _ (ih g h x hx)
    · rw [if_neg hy] at hg
      have hne := splitB_ne c r
      generalize splitB c r = s at *
      match s, hne with
      | g' :: gs, _ =>
        rcases List.mem_cons.1 hg with h | h
        · subst h
          rcases List.mem_cons.1 hx with h | h
          · exact h ▸ List.mem_cons_self
          · exact List.mem_cons_of_mem _ (ih g' List.mem_cons_self x h)
        · exact List.mem_cons_of_mem _ (ih g (List.mem_cons_of_mem _ h) x hx)
theorem split_out (c : UInt8) : ∀ (l : List UInt8), ∀ g ∈ splitB c l, c ∉ g
  | [], g, hg => by simp [splitB] at hg; subst hg; simp
  | y :: r, g, hg => by
    have ih := split_out c r
    unfold splitB at hg
    by_cases hy : y = c
    · rw [if_pos hy] at hg
      rcases List.mem_cons.1 hg with h | h
      · subst h; simp
      · exact ih g h
    · rw [if_neg hy] at hg
      have hne := splitB_ne c r
      generalize splitB c r = s at *
      match s, hne with
      | g' :: gs, _ =>
        rcases List.mem_cons.1 hg with h | h
        · subst h
          intro hm
          rcases List.mem_cons.1 hm with h | h
          · exact hy h.symm
          · exact ih g' List.mem_cons_self h
        · exact ih g (List.mem_cons_of_mem _ h)

/-- The value that digits are. -/
def numD (l : List UInt8) : Int := l.foldl (fun n x => min (n * 10 + ((x.toNat : Int) - 48)) 65535) 0
def numZ (l : List UInt8) : Int := if l = [] then -1 else numD l
/-- One digit more. -/
def upd (x : UInt8) (n : Int) : Int := min (10 * max n 0 + ((x.toNat : Int) - 48)) 65535
theorem numD_snoc (l : List UInt8) (x : UInt8) : numD (l ++ [x]) = min (numD l * 10 + ((x.toNat : Int) - 48)) 65535 := by
  unfold numD
  rw [List.foldl_append]
  rfl
theorem numD_range : ∀ (l : List UInt8), (∀ x ∈ l, 48 ≤ x.toNat) → 0 ≤ numD l ∧ numD l ≤ 65535 := by
  suffices H : ∀ (l : List UInt8) (n : Int), (∀ x ∈ l, 48 ≤ x.toNat) → 0 ≤ n → n ≤ 65535 → 0 ≤ l.foldl (fun n x => min (n * 10 + ((x.toNat : Int) - 48)) 65535) n ∧ l.foldl (fun n x => min (n * 10 + ((x.toNat : Int) - 48)) 65535) n ≤ 65535 from
    fun l h => H l 0 h (by omega) (by omega)
  intro l
  induction l with
  | nil => exact fun n _ h0 h1 => ⟨h0, h1⟩
  | cons y r ih =>
    intro n h h0 h1
    have := h y List.mem_cons_self
    exact ih (min (n * 10 + ((y.toNat : Int) - 48)) 65535) (fun x hx => h x (List.mem_cons_of_mem _ hx)) (by omega) (by omega)
theorem numZ_snoc (l : List UInt8) (x : UInt8) (h : ∀ y ∈ l, 48 ≤ y.toNat) : numZ (l ++ [x]) = upd x (numZ l) := by
  unfold numZ upd
  rw [if_neg (by simp), numD_snoc]
  by_cases hl : l = []
  · subst hl
    rw [if_pos rfl]
    simp [numD]
    omega
  · rw [if_neg hl]
    have := numD_range l h
    omega
theorem numZ_range (l : List UInt8) (h : ∀ x ∈ l, 48 ≤ x.toNat) : -1 ≤ numZ l ∧ numZ l ≤ 65535 := by
  unfold numZ
  split
  · omega
  · have := numD_range l h
    omega
/-- Is a byte of a head? -/
def headB (x : UInt8) : Bool := decide (48 ≤ x.toNat) && decide (x.toNat ≤ 59)
def headL (l : List UInt8) : Bool := l.all headB
theorem headB_ge {x : UInt8} (h : headB x = true) : 48 ≤ x.toNat := by simp [headB] at h; omega
/-- All groups of a text. -/
def GZ (l : List UInt8) : List (List Int) := (splitB 59 l).map fun g => (splitB 58 g).map numZ
theorem GZ_nil : GZ [] = [[-1]] := rfl
theorem GZ_semi (l : List UInt8) : GZ (l ++ [59]) = GZ l ++ [[-1]] := by
  unfold GZ
  rw [split_snoc, if_pos rfl, List.map_append]
  rfl
theorem GZ_colon (l : List UInt8) : GZ (l ++ [58]) = modLast (· ++ [-1]) (GZ l) := by
  unfold GZ
  rw [split_snoc, if_neg (by decide)]
  refine modLast_map _ _ _ (fun a => ?_) _
  rw [split_snoc, if_pos rfl, List.map_append]
  rfl
theorem GZ_digit (l : List UInt8) (x : UInt8) (h1 : x ≠ 59) (h2 : x ≠ 58) (hl : ∀ y ∈ l, 48 ≤ y.toNat) : GZ (l ++ [x]) = modLast (modLast (upd x)) (GZ l) := by
  unfold GZ
  rw [split_snoc, if_neg h1]
  have hin : ∀ g ∈ splitB 59 l, ∀ y ∈ g, 48 ≤ y.toNat := fun g hg y hy => hl y (split_in 59 l g hg y hy)
  generalize splitB 59 l = s at *
  induction s with
  | nil => rfl
  | cons g gs ih =>
    have key : ∀ g : List UInt8, (∀ y ∈ g, 48 ≤ y.toNat) → (splitB 58 (g ++ [x])).map numZ = modLast (upd x) ((splitB 58 g).map numZ) := fun g hg => by
      rw [split_snoc, if_neg h2]
      have hin2 : ∀ v ∈ splitB 58 g, ∀ y ∈ v, 48 ≤ y.toNat := fun v hv y hy => hg y (split_in 58 g v hv y hy)
      generalize splitB 58 g = t at *
      induction t with
      | nil => rfl
      | cons v vs ih =>
        match vs, ih with
        | [], _ => simp [modLast, numZ_snoc v x (hin2 v List.mem_cons_self)]
        | v' :: vs', ih =>
          show numZ v :: (modLast (· ++ [x]) (v' :: vs')).map numZ = numZ v :: modLast (upd x) ((v' :: vs').map numZ)
          rw [ih (fun u hu => hin2 u (List.mem_cons_of_mem _ hu))]
    match gs, ih with
    | [], _ =>
      show [(splitB 58 (g ++ [x])).map numZ] = [modLast (upd x) ((splitB 58 g).map numZ)]
      rw [key g (hin g List.mem_cons_self)]
    | g' :: gs', ih =>
      show (splitB 58 g).map numZ :: (modLast (· ++ [x]) (g' :: gs')).map (fun g => (splitB 58 g).map numZ) = (splitB 58 g).map numZ :: modLast (modLast (upd x)) ((g' :: gs').map fun g => (splitB 58 g).map numZ)
      rw [ih (fun u hu => hin u (List.mem_cons_of_mem _ hu))]
theorem GZ_form (l : List UInt8) : ∃ I c, GZ l = I ++ [c] ∧ ∃ J v, c = J ++ [v] := by
  have h1 : GZ l ≠ [] := by unfold GZ; simp [splitB_ne]
  have h2 : ∀ g ∈ GZ l, g ≠ [] := fun g hg => by
    unfold GZ at hg
    obtain ⟨s, _, rfl⟩ := List.mem_map.1 hg
    simp [splitB_ne]
  refine ⟨(GZ l).dropLast, (GZ l).getLast h1, (List.dropLast_concat_getLast h1).symm, ?_⟩
  have h3 := h2 _ (List.getLast_mem h1)
  exact ⟨_, _, (List.dropLast_concat_getLast h3).symm⟩
/-- A head's groups. -/
def HZ (l : List UInt8) : List (List Int) := ((GZ l).take 32).map (·.take 8)

end Go.Proofs.YtmmkcfjncpcabaaDoor
