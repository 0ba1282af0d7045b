/- What numbers make of flags, plain: the document's way is the program's. -/
import Derived.Test.YtlolbfbkoimjkaaDoorAl
namespace Go.Proofs.YtlolbfbkoimjkaaDoor
open Go.RowKit

/-- Flags are right. -/
def okF (f : Int) : Bool := decide (0 ≤ f) && (decide (f < 1024) && !(hasB f 8 && hasB f 256))
set_option maxRecDepth 100000 in
theorem okF_range {f : Int} (h : okF f = true) : 0 ≤ f ∧ f < 1024 := by
  unfold okF at h
  simp only [Bool.and_eq_true, decide_eq_true_eq] at h
  exact ⟨h.1, h.2.1⟩
set_option maxRecDepth 100000 in
theorem fin_all {P : Int → Prop} (h : ∀ n : Fin 1024, P ((n : Nat) : Int)) (f : Int) (h0 : 0 ≤ f) (h1 : f < 1024) : P f := by
  obtain ⟨n, rfl⟩ : ∃ n : Nat, f = n := ⟨f.toNat, by omega⟩
  exact h ⟨n, by omega⟩
set_option maxRecDepth 100000 in
theorem turnZ_in (f v : Int) (k : Nat) (hk : k < 18) (hv : v = rowN k) : turnZ f v = bits .or .i64 (bits .andNot .i64 f (rowOff k)) (rowOn k) := by
  subst hv
  rcases (by omega : k = 0 ∨ k = 1 ∨ k = 2 ∨ k = 3 ∨ k = 4 ∨ k = 5 ∨ k = 6 ∨ k = 7 ∨ k = 8 ∨ k = 9 ∨ k = 10 ∨ k = 11 ∨ k = 12 ∨ k = 13 ∨ k = 14 ∨ k = 15 ∨ k = 16 ∨ k = 17) with rfl | rfl | rfl | rfl | rfl | rfl | rfl | rfl | rfl | rfl | rfl | rfl | rfl | rfl | rfl | rfl | rfl | rfl <;> rfl
set_option maxRecDepth 100000 in
theorem turnFrom_out (f v : Int) : ∀ j, (∀ k, k < 18 → rowN k ≠ v) → turnFrom f v j = f
  | 0, _ => rfl
  | j + 1, h => by
    rw [turnFrom, if_neg (h (17 - j) (by omega)), turnFrom_out f v j h]
set_option maxRecDepth 100000 in
theorem turnZ_out (f v : Int) (h : ∀ k, k < 18 → rowN k ≠ v) : turnZ f v = f := turnFrom_out f v 18 h
set_option maxRecDepth 100000 in
theorem with_small : ∀ n : Fin 1024, ∀ k : Fin 10, ∀ b : Bool, 0 ≤ withZ ((n : Nat) : Int) ((2 ^ (k : Nat) : Nat) : Int) b ∧ withZ ((n : Nat) : Int) ((2 ^ (k : Nat) : Nat) : Int) b < 1024 := by decide +kernel
set_option maxRecDepth 100000 in
theorem with_range (f : Int) (h0 : 0 ≤ f) (h1 : f < 1024) (k : Nat) (hk : k < 10) (b : Bool) : 0 ≤ withZ f ((2 ^ k : Nat) : Int) b ∧ withZ f ((2 ^ k : Nat) : Int) b < 1024 :=
  fin_all (P := fun f => 0 ≤ withZ f ((2 ^ k : Nat) : Int) b ∧ withZ f ((2 ^ k : Nat) : Int) b < 1024) (fun n => with_small n ⟨k, hk⟩ b) f h0 h1
set_option maxRecDepth 100000 in
/-- One flag on or off. -/
theorem with_turn : ∀ n : Fin 1024, ∀ k : Fin 10, withZ ((n : Nat) : Int) ((2 ^ (k : Nat) : Nat) : Int) true = bits .or .i64 (bits .andNot .i64 ((n : Nat) : Int) 0) ((2 ^ (k : Nat) : Nat) : Int) ∧ withZ ((n : Nat) : Int) ((2 ^ (k : Nat) : Nat) : Int) false = bits .or .i64 (bits .andNot .i64 ((n : Nat) : Int) ((2 ^ (k : Nat) : Nat) : Int)) 0 := by decide +kernel
set_option maxRecDepth 100000 in
theorem with_two : ∀ n : Fin 1024, withZ (withZ ((n : Nat) : Int) 256 false) 8 true = bits .or .i64 (bits .andNot .i64 ((n : Nat) : Int) 256) 8 ∧ withZ (withZ ((n : Nat) : Int) 256 true) 8 false = bits .or .i64 (bits .andNot .i64 ((n : Nat) : Int) 8) 256 ∧ withZ (withZ ((n : Nat) : Int) 256 false) 8 false = bits .or .i64 (bits .andNot .i64 ((n : Nat) : Int) 264) 0 ∧ withZ (withZ ((n : Nat) : Int) 8 false) 256 true = bits .or .i64 (bits .andNot .i64 ((n : Nat) : Int) 8) 256 ∧ withZ (withZ ((n : Nat) : Int) 8 false) 256 false = bits .or .i64 (bits .andNot .i64 ((n : Nat) : Int) 264) 0 ∧ withZ (withZ ((n : Nat) : Int) 1 false) 2 false = bits .or .i64 (bits .andNot .i64 ((n : Nat) : Int) 3) 0 := by decide +kernel
set_option maxRecDepth 100000 in
theorem turn_small : ∀ n : Fin 1024, ∀ k : Fin 18, okF ((n : Nat) : Int) = true → okF (bits .or .i64 (bits .andNot .i64 ((n : Nat) : Int) (rowOff k)) (rowOn k)) = true := by decide +kernel
set_option maxRecDepth 100000 in
theorem okF_turn (f v : Int) (h : okF f = true) : okF (turnZ f v) = true := by
  obtain ⟨h0, h1⟩ := okF_range h
  by_cases hv : ∃ k, k < 18 ∧ rowN k = v
  · obtain ⟨k, hk, e⟩ := hv
    rw [turnZ_in f v k hk e.symm]
    exact fin_all (P := fun f => okF f = true → okF (bits .or .i64 (bits .andNot .i64 f (rowOff k)) (rowOn k)) = true) (fun n => turn_small n ⟨k, hk⟩) f h0 h1 h
  · rw [turnZ_out f v (fun k hk e => hv ⟨k, hk, e⟩)]
    exact h

end Go.Proofs.YtlolbfbkoimjkaaDoor
