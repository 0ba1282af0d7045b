/- Rows of cells of one's own; mending, plain. -/
import Derived.Test.YtfjgfmeanehpmaaGb
import Derived.Laws.AppendOwn
import Derived.Deep.RegionLaw
namespace Go.Proofs.Ytfjgfmeanehpmaa
open Go.RowKit

def cellsC : List CC → List Value
  | [] => []
  | x :: l => encC x ++ cellsC l
theorem cellsC_len : ∀ l, (cellsC l).length = l.length * 8
  | [] => rfl
  | x :: l => by simp [cellsC, encC, cellsC_len l]; omega
theorem cellsC_at : ∀ (l : List CC) (i j : Nat), i < l.length → j < 8 → (cellsC l)[i * 8 + j]? = (encC (Ac l i))[j]?
  | [], i, _, h, _ => by simp at h
  | x :: l, 0, j, _, hj => by
    show (encC x ++ cellsC l)[0 * 8 + j]? = _
    rw [Nat.zero_mul, Nat.zero_add, List.getElem?_append_left (by simp [encC]; omega)]
    rfl
  | x :: l, i + 1, j, h, hj => by
    have := cellsC_at l i j (by simpa using h) hj
    show (encC x ++ cellsC l)[(i + 1) * 8 + j]? = _
    rw [List.getElem?_append_right (by simp [encC]; omega), show (i + 1) * 8 + j - (encC x).length = i * 8 + j by simp [encC]; omega, this]
    rfl
theorem encC_one (x : CC) : ∀ u ∈ encC x, u.oneCell' = true := fun u h => by
  simp only [encC, List.mem_cons, List.not_mem_nil, or_false] at h
  rcases h with rfl | rfl | rfl | rfl | rfl | rfl | rfl | rfl <;> rfl
theorem cellsC_one : ∀ (l : List CC), ∀ u ∈ cellsC l, u.oneCell' = true
  | [], u, h => by simp [cellsC] at h
  | x :: l, u, h => by
    simp only [cellsC, List.mem_append] at h
    rcases h with h | h
    · exact encC_one x u h
    · exact cellsC_one l u h
theorem cellsC_snoc (l : List CC) (x : CC) : cellsC (l ++ [x]) = cellsC l ++ encC x := by
  induction l with
  | nil => simp [cellsC]
  | cons y l ih => simp [cellsC, ih]
theorem C8.enc {w : World} {b o : Nat} {x : CC} (h : C8 w b o x) (j : Nat) (u : Value) (hj : (encC x)[j]? = some u) : w.cell? ⟨b, o + j, none⟩ = some u := by
  obtain ⟨h0, h1, h2, h3, h4, h5, h6, h7⟩ := h
  match j, hj with
  | 0, hj => cases hj; exact h0
  | 1, hj => cases hj; exact h1
  | 2, hj => cases hj; exact h2
  | 3, hj => cases hj; exact h3
  | 4, hj => cases hj; exact h4
  | 5, hj => cases hj; exact h5
  | 6, hj => cases hj; exact h6
  | 7, hj => cases hj; exact h7
  | j + 8, hj => simp [encC] at hj
theorem C8.of {w : World} {b o : Nat} {x : CC} (h : ∀ j u, (encC x)[j]? = some u → w.cell? ⟨b, o + j, none⟩ = some u) : C8 w b o x :=
  ⟨h 0 _ rfl, h 1 _ rfl, h 2 _ rfl, h 3 _ rfl, h 4 _ rfl, h 5 _ rfl, h 6 _ rfl, h 7 _ rfl⟩
theorem RC.news {w : World} {b off : Nat} {l : List CC} (h : ∀ k, k < l.length → C8 w b (off + k * 8) (Ac l k)) :
    ∀ j u, (cellsC l)[j]? = some u → w.cell? ((⟨b, off, none⟩ : Addr).add j) = some u := fun j u hj => by
  have hjl : j < l.length * 8 := by rw [← cellsC_len]; exact (List.getElem?_eq_some_iff.1 hj).1
  have hadd : ((⟨b, off, none⟩ : Addr).add j) = ⟨b, off + j, none⟩ := by
    unfold Addr.add
    by_cases h1 : j = 0 <;> simp [h1]
  rw [hadd]
  have e : j = j / 8 * 8 + j % 8 := by omega
  have h1 := cellsC_at l (j / 8) (j % 8) (by omega) (by omega)
  rw [← e, hj] at h1
  have h2 := (h (j / 8) (by omega)).enc (j % 8) u h1.symm
  rwa [Nat.add_assoc, ← e] at h2
/-- A row of one's own reads as its list. -/
theorem RC.of_own {w : World} {B : Nat} {A : Option Addr} {n c : Nat} {l : List CC} (h : w.ownsRow B 54 8 (.slice A n c) n (cellsC l)) (hn : n = l.length) : RC w w.heap.size A l := fun hne => by
  subst hn
  rcases h.2 with ⟨_, h0⟩ | ⟨g', cap, cur, e, hb, hh, _, _, _, ht⟩
  · exact absurd (List.eq_nil_of_length_eq_zero h0) hne
  · injection e with e1 _ _
    refine ⟨g', 0, e1, (Array.getElem?_eq_some_iff.1 hh).1, fun k hk => C8.of fun j u hj => ?_⟩
    have hj8 : j < 8 := by have := (List.getElem?_eq_some_iff.1 hj).1; simpa [encC] using this
    have hx := cellsC_at l k j hk hj8
    rw [hj] at hx
    rw [Nat.zero_add, cell_of_row w g' _ cur _ _ hh]
    rw [← ht, List.getElem?_take] at hx
    split at hx
    · simpa using hx
    · cases hx
theorem infoCell : (Try.prog.info? 54).map (fun i => (i.zero, i.size, i.bytes)) = some (some (.agg #[.int .i32 0, .string ⟨#[]⟩, .int .i64 0, .int .i64 0, .int .i64 0, .int .i64 0, .int .i64 0, .int .i64 0]), 8, 72) := by kernel_rfl

/-- Two halves of one. -/
def pairB (x y : CC) : Bool := x.h == 1 && eqC y { x with h := 2 }
/-- How a cell is shown, and nothing else of it. -/
def bare (x : CC) : CC := ⟨0, ⟨#[]⟩, 0, x.fk, x.fn, x.bk, x.bn, x.fl⟩
def mendL : List CC → List CC
  | [] => []
  | [x] => [if x.h = 0 ∨ x.h = 3 then x else bare x]
  | x :: y :: t => if pairB x y = true then x :: y :: mendL t else (if x.h = 0 then x else bare x) :: mendL (y :: t)
theorem mendL_len : ∀ l, (mendL l).length = l.length
  | [] => rfl
  | [x] => rfl
  | x :: y :: t => by
    unfold mendL
    split
    · simp [mendL_len t]
    · simp [mendL_len (y :: t)]
/-- One step of mending, from a place on: a pair, or a cell alone. -/
theorem mendL_pair (l : List CC) (i : Nat) (h : i + 1 < l.length) (hp : pairB (Ac l i) (Ac l (i + 1)) = true) : mendL (l.drop i) = Ac l i :: Ac l (i + 1) :: mendL (l.drop (i + 2)) := by
  rw [List.drop_eq_getElem_cons (by omega), List.drop_eq_getElem_cons h]
  have e0 : Ac l i = l[i] := by unfold Ac; rw [List.getElem?_eq_getElem (by omega)]; rfl
  have e1 : Ac l (i + 1) = l[i + 1] := by unfold Ac; rw [List.getElem?_eq_getElem h]; rfl
  rw [e0, e1] at hp ⊢
  conv => lhs; unfold mendL
  rw [if_pos hp]
theorem mendL_one (l : List CC) (i : Nat) (h : i < l.length) (hp : i + 1 < l.length → pairB (Ac l i) (Ac l (i + 1)) = false) : mendL (l.drop i) = (if (Ac l i).h = 0 ∨ (Ac l i).h = 3 ∧ i + 1 = l.length then Ac l i else bare (Ac l i)) :: mendL (l.drop (i + 1)) := by
  rw [List.drop_eq_getElem_cons h]
  have e0 : Ac l i = l[i] := by unfold Ac; rw [List.getElem?_eq_getElem (by omega)]; rfl
  rw [e0] at hp ⊢
  by_cases h1 : i + 1 < l.length
  · have e1 : Ac l (i + 1) = l[i + 1] := by unfold Ac; rw [List.getElem?_eq_getElem h1]; rfl
    have hp := hp h1
    rw [e1] at hp
    rw [List.drop_eq_getElem_cons h1]
    conv => lhs; unfold mendL
    rw [if_neg (by rw [hp]; decide)]
    congr 1
    by_cases h0 : l[i].h = 0
    · rw [if_pos h0, if_pos (.inl h0)]
    · rw [if_neg h0, if_neg (by omega)]
  · have e : i + 1 = l.length := by omega
    rw [List.drop_of_length_le (by omega)]
    conv => lhs; unfold mendL
    congr 1
    by_cases h0 : l[i].h = 0 ∨ l[i].h = 3
    · rw [if_pos h0, if_pos (by omega)]
    · rw [if_neg h0, if_neg (by omega)]
end Go.Proofs.Ytfjgfmeanehpmaa
