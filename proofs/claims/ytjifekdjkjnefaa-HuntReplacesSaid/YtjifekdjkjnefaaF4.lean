/- The walks of eachPlace's two functions. -/
import Derived.Test.YtjifekdjkjnefaaF3
namespace Go.Proofs.Ytjifekdjkjnefaa
open Go.RowKit

def rowA (f : Nat → Nat) (n p : Nat) : Array Value := ((List.range n).map fun i => Value.int .i64 ((if i < p then f i else 0 : Nat) : Int)).toArray
theorem rowA_at (f : Nat → Nat) (n p k : Nat) (h : k < n) : (rowA f n p)[k]? = some (.int .i64 ((if k < p then f k else 0 : Nat) : Int)) := by
  unfold rowA
  simp [h]
theorem rowA_size (f : Nat → Nat) (n p : Nat) : (rowA f n p).size = n := by simp [rowA]
theorem rowA_set (f : Nat → Nat) (n p : Nat) (h : p < n) : (rowA f n p).setIfInBounds p (.int .i64 (f p : Nat)) = rowA f n (p + 1) := by
  apply Array.ext_getElem?
  intro k
  rw [Array.getElem?_setIfInBounds]
  by_cases hk : p = k
  · subst hk
    rw [if_pos rfl, if_pos (by rw [rowA_size]; exact h), rowA_at f n _ p h, if_pos (by omega)]
  · rw [if_neg hk]
    by_cases hkn : k < n
    · rw [rowA_at f n _ k hkn, rowA_at f n _ k hkn]
      by_cases h1 : k < p
      · rw [if_pos h1, if_pos (by omega)]
      · rw [if_neg h1, if_neg (by omega)]
    · rw [Array.getElem?_eq_none (by rw [rowA_size]; omega), Array.getElem?_eq_none (by rw [rowA_size]; omega)]
theorem rowA_skip (f : Nat → Nat) (n p : Nat) (h : f p = 0) : rowA f n p = rowA f n (p + 1) := by
  unfold rowA
  congr 1
  apply List.map_congr_left
  intro k _
  by_cases h1 : k < p
  · rw [if_pos h1, if_pos (by omega)]
  · by_cases h2 : k = p
    · subst h2
      rw [if_neg h1, if_pos (by omega), h]
    · rw [if_neg h1, if_neg (by omega)]
theorem rowA_zero (f : Nat → Nat) (n : Nat) : rowA f n 0 = Array.replicate n (Value.int .i64 0) := by
  rw [← List.toArray_replicate]
  unfold rowA
  congr 1
  rw [List.eq_replicate_iff]
  refine ⟨by simp, fun b hb => ?_⟩
  obtain ⟨i, _, rfl⟩ := List.mem_map.1 hb
  rfl
theorem mk_ints (c : Nat) (hc : c ≤ 1000000000) (W : World) : (Instr.makeSlice 42 (.int .i64 c) (.int .i64 c)).run Try.prog W = .ok (.slice (some ⟨W.heap.size, 0, none⟩) c c) (W.alloc (.cells (Array.replicate c (Value.int .i64 0)) 3)) := by
  obtain ⟨i0, hi, hz0, hz1, hz2⟩ := info_parts Try.infoInt
  have h := run_make (P := Try.prog) W 42 3 i0 (.int .i64 0) Try.underlying42 hi hz0 .i64 .i64 c c (by omega) (Int.le_refl _) (by rw [hz2]; omega) (by omega)
  rw [Int.toNat_natCast, hz1, Nat.mul_one] at h
  rw [h]
  congr 3
  apply Array.ext'
  rw [Array.toList_replicate]
  exact toList_madeCells_one _ c
theorem row_cell {W : World} {g : Nat} {A : Array Value} {t : TypeId} (h : W.heap[g]? = some (.cells A t (0, 0))) (k : Nat) (v : Value) (hv : A[k]? = some v) : W.cell? ⟨g, k, none⟩ = some v := by
  simp [World.cell?, h, hv]
theorem row_set {W : World} {g : Nat} {A : Array Value} {t : TypeId} (h : W.heap[g]? = some (.cells A t (0, 0))) (k : Nat) (v : Value) : (W.setCell ⟨g, k, none⟩ v).heap[g]? = some (.cells (A.setIfInBounds k v) t (0, 0)) := by
  simp [World.setCell, Array.getElem?_modify, h]
set_option maxRecDepth 100000 in
theorem place1_any (g b : Nat) (A : Array Value) (nl k n : Nat) (hk : k < nl) (hA : A.size = nl) (W : World) (hb : W.cell? ⟨b, 0, none⟩ = some (.slice (some ⟨g, 0, none⟩) nl nl)) (hg : W.heap[g]? = some (.cells A 3 (0, 0))) :
    Calls Try.prog 44 #[.int .i64 k, .int .i64 n, .pointer (some ⟨b, 0, none⟩)] W fun e w' => e = .returned (.bool true) ∧ W.setCell ⟨g, k, none⟩ (.int .i64 n) = w' := by
  have hki : (k : Int) < nl := by omega
  have hc := row_cell hg k A[k] (by rw [Array.getElem?_eq_getElem (by omega)])
  have hf : W.frozen? ⟨g, k, none⟩ = false := by simp [World.frozen?, hg]
  generalize A[k] = v at *
  clear hg hk hA
  go_enter Try.func44, Try.ntmps44
  go_wp2
  go_ret
  exact ⟨rfl, rfl⟩
set_option maxRecDepth 100000 in
theorem place2_lt (b c : Nat) (s : ByteArray) (k n : Nat) (hn : n < s.size) (W : World) (hb : W.cell? ⟨b, 0, none⟩ = some (.string s)) :
    Calls Try.prog 45 #[.int .i64 k, .int .i64 n, .pointer (some ⟨b, 0, none⟩), .pointer (some ⟨c, 0, none⟩)] W fun e w' => e = .returned (.bool true) ∧ W = w' := by
  have hki : (n : Int) < s.size := by omega
  go_enter Try.func45, Try.ntmps45
  go_wp2
  go_ret
  exact ⟨rfl, rfl⟩
set_option maxRecDepth 100000 in
theorem place2_eq (b c : Nat) (s : ByteArray) (k n q fJ : Nat) (kc : Array Value) (hcJ : ∀ a W, (callFunc fJ (#[a] ++ kc)).run Try.prog W = .ok (.enter fJ (#[a] ++ kc)) W) (hn : n = s.size) (hk : k ≤ 1000000000) (hq : q + n = k + 1) (W : World) (hb : W.cell? ⟨b, 0, none⟩ = some (.string s)) (hc : W.cell? ⟨c, 0, none⟩ = some (.func (.func fJ) #[] kc)) (P : Bool → World → Prop)
    (hD : Calls Try.prog fJ (#[.int .i64 q] ++ kc) W fun e w' => ∃ b, e = .returned (.bool b) ∧ P b w') :
    Calls Try.prog 45 #[.int .i64 k, .int .i64 n, .pointer (some ⟨b, 0, none⟩), .pointer (some ⟨c, 0, none⟩)] W fun e w' => ∃ b, e = .returned (.bool b) ∧ P b w' := by
  have hki : ¬ ((n : Int) < s.size) := by omega
  have hw1 : IntKind.i64.wrap ((k : Int) + 1) = (k : Int) + 1 := IntWalk.i64_in _ (by omega)
  have hw2 : IntKind.i64.wrap ((k : Int) + 1 - n) = q := by rw [IntWalk.i64_in _ (by omega)]; omega
  have HD := Lib.hid hD
  clear hD hn hq
  go_enter Try.func45, Try.ntmps45
  go_wp2
  (with_reducible refine HD.out.mono ?_)
  rintro e w3 ⟨x, rfl, h3⟩
  have H3 := Lib.hid h3
  clear h3
  go_wp2
  go_ret
  exact ⟨_, rfl, H3.out⟩

end Go.Proofs.Ytjifekdjkjnefaa
