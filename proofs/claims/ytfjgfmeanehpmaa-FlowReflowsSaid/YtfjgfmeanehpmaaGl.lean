/- Blanks. -/
import Derived.Test.YtfjgfmeanehpmaaGk
import Derived.Laws.MakeOwn
namespace Go.Proofs.Ytfjgfmeanehpmaa
open Go.RowKit

def zC : Array Value := #[.int .i32 0, .string ⟨#[]⟩, .int .i64 0, .int .i64 0, .int .i64 0, .int .i64 0, .int .i64 0, .int .i64 0]
theorem made_at (n k j : Nat) (hk : k < n) (hj : j < 8) : (madeCells zC (n * 8))[k * 8 + j]? = some (zC[j]!) := by
  have h : k * 8 + j < n * 8 := by omega
  unfold madeCells
  rw [Array.getElem?_map, Array.getElem?_range, if_pos h]
  show some (zC[(k * 8 + j) % 8]!) = _
  rw [show (k * 8 + j) % 8 = j by omega]
theorem mk_cells (n : Nat) (hn : n ≤ 1000) (W : World) : (Instr.makeSlice 29 (.int .i64 n) (.int .i64 n)).run Try.prog W = .ok (.slice (some ⟨W.heap.size, 0, none⟩) n n) (W.alloc (.cells (madeCells zC (n * 8)) 54)) := by
  obtain ⟨i0, hi, hz0, hz1, hz2⟩ := info_parts infoCell
  have h := run_make (P := Try.prog) W 29 54 i0 _ Try.underlying29 hi hz0 .i64 .i64 n n (by omega) (Int.le_refl _) (by rw [hz2]; omega) (by omega)
  rw [Int.toNat_natCast, hz1] at h
  exact h
theorem MC.made (W : World) (n : Nat) : MC (W.alloc (.cells (madeCells zC (n * 8)) 54)) W.heap.size (List.replicate n CC.zero) := by
  refine ⟨⟨_, heap_alloc_new W _⟩, fun k hk => C8.of fun j u hj => ?_⟩
  have hk' : k < n := by simpa using hk
  have hj8 : j < 8 := by have := (List.getElem?_eq_some_iff.1 hj).1; simpa [encC] using this
  have e : Ac (List.replicate n CC.zero) k = CC.zero := by
    unfold Ac
    rw [List.getElem?_replicate, if_pos hk']
    rfl
  rw [e] at hj
  rw [cell_of_row _ _ _ _ _ _ (heap_alloc_new W _), made_at n k j hk' hj8, ← hj]
  match j, hj8 with
  | 0, _ => rfl
  | 1, _ => rfl
  | 2, _ => rfl
  | 3, _ => rfl
  | 4, _ => rfl
  | 5, _ => rfl
  | 6, _ => rfl
  | 7, _ => rfl
theorem blankK_eq (L : List CC) (s : Nat) (x : CC) : ∀ k, s + k ≤ L.length → blankK L s x k = L.take s ++ List.replicate k x ++ L.drop (s + k)
  | 0, _ => by simp [blankK]
  | k + 1, h => by
    unfold blankK
    rw [blankK_eq L s x k (by omega), List.drop_eq_getElem_cons (by omega : s + k < L.length), List.set_append_right _ _ (by simp; omega)]
    have e : s + k - (L.take s ++ List.replicate k x).length = 0 := by simp; omega
    rw [e, List.set_cons_zero, List.replicate_succ']
    simp [Nat.add_assoc]
theorem blanks_is (n : Nat) (x : CC) : blankK (List.replicate n CC.zero) 0 x n = List.replicate n x := by
  rw [blankK_eq _ _ _ _ (by simp)]
  simp
end Go.Proofs.Ytfjgfmeanehpmaa
