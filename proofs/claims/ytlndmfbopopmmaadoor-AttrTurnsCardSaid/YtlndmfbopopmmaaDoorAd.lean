/- The walks of named, first, most0, and Has for any flag. -/
import Derived.Test.YtlndmfbopopmmaaDoorAc
namespace Go.Proofs.YtlndmfbopopmmaaDoor
open Go.RowKit

def most0Z (n : Int) : Int := if n < 0 then 0 else n
theorem most0_any (n : Int) (w : World) : Calls Tryd.prog 36 #[.int .i64 n] w fun e w' => e = .returned (.int .i64 (most0Z n)) ∧ Below w.heap.size w w' := by
  by_cases h : n < 0
  · rw [show most0Z n = 0 from if_pos h]
    go_enter Tryd.func36, Tryd.ntmps36
    go_wp2
    go_ret
    exact ⟨rfl, Below.refl _ _⟩
  · rw [show most0Z n = n from if_neg h]
    have hd : decide (n < 0) = false := decide_eq_false h
    go_enter Tryd.func36, Tryd.ntmps36
    go_wp2
    go_ret
    exact ⟨rfl, Below.refl _ _⟩
theorem first_none (A : Option Addr) (c : Nat) (w : World) : Calls Tryd.prog 22 #[.slice A 0 c] w fun e w' => e = .returned (.int .i64 0) ∧ Below w.heap.size w w' := by
  go_enter Tryd.func22, Tryd.ntmps22
  go_wp2
  go_ret
  exact ⟨rfl, Below.refl _ _⟩
theorem first_some (b off n c : Nat) (x : Int) (h : 0 < n) (w : World) (hc : w.cell? ⟨b, off, none⟩ = some (.int .i64 x)) : Calls Tryd.prog 22 #[.slice (some ⟨b, off, none⟩) n c] w fun e w' => e = .returned (.int .i64 (most0Z x)) ∧ Below w.heap.size w w' := by
  have hne : ((n : Int) == 0) = false := by simp; omega
  have hlt : (0 : Int) < n := by omega
  clear h
  by_cases h : x < 0
  · rw [show most0Z x = 0 from if_pos h]
    go_enter Tryd.func22, Tryd.ntmps22
    go_wp2
    go_ret
    exact ⟨rfl, Below.refl _ _⟩
  · rw [show most0Z x = x from if_neg h]
    have h' : 0 ≤ x := by omega
    clear h
    go_enter Tryd.func22, Tryd.ntmps22
    go_wp2
    go_ret
    exact ⟨rfl, Below.refl _ _⟩

/-- What a number makes of Fore's color: kind and number. -/
def namedK (k v : Int) : Int := if 30 ≤ v ∧ v ≤ 37 then 1 else if 90 ≤ v ∧ v ≤ 97 then 1 else if v = 39 then 0 else k
def namedN (n v : Int) : Int := if 30 ≤ v ∧ v ≤ 37 then v - 30 else if 90 ≤ v ∧ v ≤ 97 then v - 82 else if v = 39 then 0 else n
set_option maxHeartbeats 2000000 in
theorem named_any (k n v : Int) (w : World) : Calls Tryd.prog 24 #[.agg #[.int .i64 k, .int .i64 n], .int .i64 v] w fun e w' => e = .returned (.agg #[.int .i64 (namedK k v), .int .i64 (namedN n v)]) ∧ Below w.heap.size w w' := by
  by_cases h1 : 30 ≤ v ∧ v ≤ 37
  · rw [show namedK k v = 1 from if_pos h1, show namedN n v = v - 30 from if_pos h1]
    obtain ⟨a1, a2⟩ := h1
    have hw : IntKind.i64.wrap (v - 30) = v - 30 := IntWalk.i64_in _ (by omega)
    have hw2 : wrap64 (v - 30) = v - 30 := IntWalk.wrap64_in _ (by omega)
    go_enter Tryd.func24, Tryd.ntmps24
    go_wp2
    exact bodyPost_ret (v := .agg #[.int .i64 1, .int .i64 (v - 30)]) (by simp [results, Tryd.results24, go_sem]) rfl ⟨rfl, ((Below.refl _ _).alloc (Nat.le_refl _) _).alloc (by simp) _⟩
  by_cases h2 : 90 ≤ v ∧ v ≤ 97
  · rw [show namedK k v = 1 from (if_neg h1).trans (if_pos h2), show namedN n v = v - 82 from (if_neg h1).trans (if_pos h2)]
    obtain ⟨a1, a2⟩ := h2
    obtain ⟨u, rfl⟩ : ∃ u, v = u + 82 := ⟨v - 82, by omega⟩
    rw [show u + 82 - 82 = u by omega]
    have g0 : (30 : Int) ≤ u + 82 := by omega
    have g1 : decide (u + 82 ≤ 37) = false := decide_eq_false (by omega)
    have hw2 : IntKind.i64.wrap (u + 82 - 90 + 8) = u := (IntWalk.i64_in _ (by omega)).trans (by omega)
    have hw : IntKind.i64.wrap (u + 82 - 90) = u + 82 - 90 := IntWalk.i64_in _ (by omega)
    clear h1
    go_enter Tryd.func24, Tryd.ntmps24
    go_wp2
    exact bodyPost_ret (v := .agg #[.int .i64 1, .int .i64 u]) (by simp [results, Tryd.results24, go_sem]) rfl ⟨rfl, ((Below.refl _ _).alloc (Nat.le_refl _) _).alloc (by simp) _⟩
  by_cases h3 : v = 39
  · subst h3
    rw [show namedK k 39 = 0 from rfl, show namedN n 39 = 0 from rfl]
    clear h1 h2
    go_enter Tryd.func24, Tryd.ntmps24
    go_wp2
    exact bodyPost_ret (v := .agg #[.int .i64 0, .int .i64 0]) (by simp [results, Tryd.results24, go_sem]) rfl ⟨rfl, ((Below.refl _ _).alloc (Nat.le_refl _) _).alloc (by simp) _⟩
  rw [show namedK k v = k from (if_neg h1).trans ((if_neg h2).trans (if_neg h3)), show namedN n v = n from (if_neg h1).trans ((if_neg h2).trans (if_neg h3))]
  have b3 : (v == 39) = false := by simpa using h3
  rcases (by omega : v < 30 ∨ (37 < v ∧ v < 90) ∨ 97 < v) with g | ⟨g, g'⟩ | g
  · have d1 : decide (30 ≤ v) = false := decide_eq_false (by omega)
    have d2 : decide (90 ≤ v) = false := decide_eq_false (by omega)
    clear h1 h2 h3 g
    go_enter Tryd.func24, Tryd.ntmps24
    go_wp2
    exact bodyPost_ret (v := .agg #[.int .i64 k, .int .i64 n]) (by simp [results, Tryd.results24, go_sem]) rfl ⟨rfl, ((Below.refl _ _).alloc (Nat.le_refl _) _).alloc (by simp) _⟩
  · have d0 : 30 ≤ v := by omega
    have d1 : decide (v ≤ 37) = false := decide_eq_false (by omega)
    have d2 : decide (90 ≤ v) = false := decide_eq_false (by omega)
    clear h1 h2 h3 g g'
    go_enter Tryd.func24, Tryd.ntmps24
    go_wp2
    exact bodyPost_ret (v := .agg #[.int .i64 k, .int .i64 n]) (by simp [results, Tryd.results24, go_sem]) rfl ⟨rfl, ((Below.refl _ _).alloc (Nat.le_refl _) _).alloc (by simp) _⟩
  · have d0 : 30 ≤ v := by omega
    have d1 : decide (v ≤ 37) = false := decide_eq_false (by omega)
    have d2 : 90 ≤ v := by omega
    have d3 : decide (v ≤ 97) = false := decide_eq_false (by omega)
    clear h1 h2 h3 g
    go_enter Tryd.func24, Tryd.ntmps24
    go_wp2
    exact bodyPost_ret (v := .agg #[.int .i64 k, .int .i64 n]) (by simp [results, Tryd.results24, go_sem]) rfl ⟨rfl, ((Below.refl _ _).alloc (Nat.le_refl _) _).alloc (by simp) _⟩

end Go.Proofs.YtlndmfbopopmmaaDoor
