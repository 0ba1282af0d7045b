/- The walk of colorOf. -/
import Derived.Test.YtlolbfbkoimjkaaDoorAf
import Derived.Test.YtlolbfbkoimjkaaDoorQc
import Derived.Laws.BitsAllLaws
import Derived.Laws.BitsLemmas
namespace Go.Proofs.YtlolbfbkoimjkaaDoor
open Go.RowKit

def foldC (xs : List Int) : Int := xs.foldl (fun n v => n * 256 + most0Z v) 0
set_option maxRecDepth 100000 in
theorem foldC_snoc (xs : List Int) (v : Int) : foldC (xs ++ [v]) = foldC xs * 256 + most0Z v := by unfold foldC; rw [List.foldl_append]; rfl
set_option maxRecDepth 100000 in
theorem ofInt_i64 (a : Nat) (ha : a < 9223372036854775808) : (BitVec.ofInt 64 (a : Int)).toNat = a := by
  rw [BitVec.ofInt_natCast, BitVec.toNat_ofNat]; exact Nat.mod_eq_of_lt (by omega)
set_option maxRecDepth 100000 in
theorem or_part (n v : Int) (h0 : 0 ≤ n) (h1 : n < 16777216) (h2 : 0 ≤ v) (h3 : v ≤ 255) : bits .or .i64 (n * 256) v = n * 256 + v := by
  obtain ⟨a, rfl⟩ : ∃ a : Nat, n = a := ⟨n.toNat, by omega⟩
  obtain ⟨b, rfl⟩ : ∃ b : Nat, v = b := ⟨v.toNat, by omega⟩
  show IntKind.i64.wrap ((BitVec.ofInt 64 ((a : Int) * 256) ||| BitVec.ofInt 64 (b : Int)).toNat : Int) = _
  rw [show (a : Int) * 256 = ((a * 256 : Nat) : Int) by simp, BitVec.toNat_or, ofInt_i64 _ (by omega), ofInt_i64 _ (by omega), IntKind.wrap_i64]
  have : a * 256 ||| b = a * 256 + b := by
    have := Nat.two_pow_add_eq_or_of_lt (i := 8) (b := b) (by omega) a
    rw [Nat.mul_comm a 256]
    exact this.symm
  rw [this]
  omega
set_option maxRecDepth 100000 in
theorem fold_bd (n p : Int) (k : Nat) (h0 : 0 ≤ n) (h1 : n < 256 ^ k) (h2 : 0 ≤ p) (h3 : p ≤ 255) : 0 ≤ n * 256 + p ∧ n * 256 + p < 256 ^ (k + 1) := ⟨by omega, by rw [Int.pow_succ]; omega⟩
/-- What parts make of a color. -/
def partsOk (xs : List Int) : Bool := xs.all fun x => decide (x ≤ 255)
def colorOfV (k0 n0 kind : Int) (xs : List Int) : Value := if partsOk xs = true then .agg #[.int .i64 kind, .int .i64 (foldC xs)] else .agg #[.int .i64 k0, .int .i64 n0]

end Go.Proofs.YtlolbfbkoimjkaaDoor
