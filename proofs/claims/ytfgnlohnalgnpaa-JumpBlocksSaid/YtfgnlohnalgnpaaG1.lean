/- Which of two places is ahead; the last block that does not begin behind a place. -/
import Derived.Test.YtfgnlohnalgnpaaE6
namespace Go.Proofs.Ytfgnlohnalgnpaa
open Go.RowKit

def lessB (r c s d : Int) : Bool := decide (r < s ∨ r = s ∧ c < d)
theorem less_as (r c s d : Int) (b : Bool) (h : lessB r c s d = b) (w : World) : Calls Try.prog 37 #[.agg #[.int .i64 r, .int .i64 c], .agg #[.int .i64 s, .int .i64 d]] w fun e w' => e = .returned (.bool b) ∧ Below w.heap.size w w' := by
  by_cases h1 : r < s
  · obtain rfl : true = b := by rw [← h, lessB, decide_eq_true (.inl h1)]
    clear h
    go_enter Try.func37, Try.ntmps37
    go_wp2
    go_ret
    exact ⟨by simp_all, belA (belA (Below.refl _ _) _) _⟩
  · have hd1 : decide (r < s) = false := decide_eq_false h1
    by_cases h2 : r = s
    · subst h2
      have hb : decide (c < d) = b := by rw [← h, lessB]; simp
      subst hb
      clear h h1
      go_enter Try.func37, Try.ntmps37
      go_wp2
      go_ret
      exact ⟨by simp_all, belA (belA (Below.refl _ _) _) _⟩
    · obtain rfl : false = b := by rw [← h, lessB, decide_eq_false (by omega)]
      have hd2 : (r == s) = false := by simpa using h2
      clear h h1 h2
      go_enter Try.func37, Try.ntmps37
      go_wp2
      go_ret
      exact ⟨by simp_all, belA (belA (Below.refl _ _) _) _⟩
theorem refLess_as (r c s d : Int) (b : Bool) (h : lessB r c s d = b) (w : World) : Calls Try.prog 22 #[.agg #[.int .i64 r, .int .i64 c], .agg #[.int .i64 s, .int .i64 d]] w fun e w' => e = .returned (.bool b) ∧ Below w.heap.size w w' := by
  by_cases h1 : r < s
  · obtain rfl : true = b := by rw [← h, lessB, decide_eq_true (.inl h1)]
    clear h
    go_enter Try.func22, Try.ntmps22
    go_wp2
    go_ret
    exact ⟨by simp_all, belA (belA (Below.refl _ _) _) _⟩
  · have hd1 : decide (r < s) = false := decide_eq_false h1
    by_cases h2 : r = s
    · subst h2
      have hb : decide (c < d) = b := by rw [← h, lessB]; simp
      subst hb
      clear h h1
      go_enter Try.func22, Try.ntmps22
      go_wp2
      go_ret
      exact ⟨by simp_all, belA (belA (Below.refl _ _) _) _⟩
    · obtain rfl : false = b := by rw [← h, lessB, decide_eq_false (by omega)]
      have hd2 : (r == s) = false := by simpa using h2
      clear h h1 h2
      go_enter Try.func22, Try.ntmps22
      go_wp2
      go_ret
      exact ⟨by simp_all, belA (belA (Below.refl _ _) _) _⟩

/-- Nothing in any field. -/
def zB : Bk := ⟨0, 0, 0, 0, 0, 0, 0, 0, 0, 0, 0, 0, 0, false, false, ByteArray.empty, ByteArray.empty⟩
def opt (o : Option Bk) : Bk × Bool := match o with | some b => (b, true) | none => (zB, false)
/-- The last one that p holds of. -/
def lastV (p : Bk → Bool) (l : List Bk) : Bk × Bool := opt (l.reverse.find? p)
theorem lastV_nil (p : Bk → Bool) : lastV p [] = (zB, false) := rfl
theorem lastV_snoc (p : Bk → Bool) (l : List Bk) (i : Nat) (h : i < l.length) : lastV p (l.take (i + 1)) = if p (Bt l i) = true then (Bt l i, true) else lastV p (l.take i) := by
  rw [take_snocB l i h]
  unfold lastV
  rw [List.reverse_append]
  cases hp : p (Bt l i) <;> simp [hp, opt]
theorem rev_map (l : List Bk) : l.reverse = (List.range l.length).reverse.map (Bt l) := by
  rw [List.map_reverse]
  congr 1
  refine List.ext_getElem (by simp) fun i h1 h2 => ?_
  have : l[i]? = some (Bt l i) := bt_some h1
  simp [List.getElem?_eq_getElem h1] at this
  simp [← this]
theorem lastV_none (p : Bk → Bool) (l : List Bk) (ys : List Nat) (hy : ys = (List.range l.length).reverse) (h : ∀ j ∈ ys, p (Bt l j) = false) : lastV p l = (zB, false) := by
  unfold lastV
  rw [rev_map, ← hy, List.find?_eq_none.2 (by simpa using h)]
  rfl
theorem lastV_stop (p : Bk → Bool) (l : List Bk) (q : List Nat) (x : Nat) (hq : q ++ [x] <+: (List.range l.length).reverse) (h : ∀ j ∈ q, p (Bt l j) = false) (hx : p (Bt l x) = true) : lastV p l = (Bt l x, true) := by
  obtain ⟨r, hr⟩ := hq
  unfold lastV
  rw [rev_map, ← hr, List.map_append, List.map_append, List.append_assoc, List.find?_append, List.find?_eq_none.2 (by simpa using h)]
  simp [hx, opt]

end Go.Proofs.Ytfgnlohnalgnpaa
