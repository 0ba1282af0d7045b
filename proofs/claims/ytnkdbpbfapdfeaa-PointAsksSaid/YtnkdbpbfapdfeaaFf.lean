/- What the sorted list holds: neighbours in order, each place as often as before. -/
import Derived.Test.YtnkdbpbfapdfeaaFe
namespace Go.Proofs.Ytnkdbpbfapdfeaa
open Go.RowKit Go.Sort

def At (s : List (Int × Int)) (k : Nat) : Int × Int := s[k]?.getD (0, 0)
def hit (x e : Int × Int) : Bool := x.1 == e.1 && x.2 == e.2
def cn (s : List (Int × Int)) (e : Int × Int) (k : Nat) : Nat := (s.take k).countP fun x => hit x e
set_option maxRecDepth 100000 in
theorem cn_succ (s : List (Int × Int)) (e : Int × Int) (k : Nat) (h : k < s.length) : cn s e (k + 1) = cn s e k + if hit (At s k) e = true then 1 else 0 := by
  unfold cn At
  rw [List.take_succ_eq_append_getElem h, List.countP_append, List.getElem?_eq_getElem h]
  simp [List.countP_cons]
set_option maxRecDepth 100000 in
theorem cn_le (s : List (Int × Int)) (e : Int × Int) (k : Nat) : cn s e k ≤ k :=
  Nat.le_trans List.countP_le_length (by rw [List.length_take]; omega)
set_option maxRecDepth 100000 in
theorem cn_all (l : List (Int × Int)) (e : Int × Int) : cn (srt l) e l.length = cn l e l.length := by
  unfold cn
  rw [List.take_of_length_le (Nat.le_refl _), List.take_of_length_le (Nat.le_of_eq (srt_len l))]
  exact (List.mergeSort_perm l _).countP_eq _
set_option maxRecDepth 100000 in
theorem srt_next (l : List (Int × Int)) (i : Nat) (h : i + 1 < l.length) : lessB (At (srt l) (i + 1)).1 (At (srt l) (i + 1)).2 (At (srt l) i).1 (At (srt l) i).2 = false := by
  have hp : (srt l).Pairwise fun x y => (!(ltOf posC) y x) = true := List.pairwise_mergeSort (fun a b c h1 h2 => by
      rw [lt_posC] at *
      simp only [lessB, Bool.not_eq_true', decide_eq_false_iff_not] at *
      omega) (fun a b => by
      rw [lt_posC, lt_posC]
      simp only [lessB, Bool.or_eq_true, Bool.not_eq_true', decide_eq_false_iff_not]
      omega) l
  have hl := srt_len l
  have hq := List.pairwise_iff_getElem.1 hp i (i + 1) (by omega) (by omega) (by omega)
  unfold At
  rw [List.getElem?_eq_getElem (by omega), List.getElem?_eq_getElem (by omega), ← lt_posC]
  simpa using hq
set_option maxRecDepth 100000 in
theorem RPl.at {w : World} {A : Option Addr} {l : List (Int × Int)} (h : RPl w w.heap.size A l) (hne : l ≠ []) :
    ∃ b off, A = some ⟨b, off, none⟩ ∧ ∀ W, Go.RowKit.Below w.heap.size w W → b < W.heap.size ∧ ∀ k, k < l.length → W.cell? ⟨b, off + k * 2, none⟩ = some (.int .i64 (At l k).1) ∧ W.cell? ⟨b, off + k * 2 + 1, none⟩ = some (.int .i64 (At l k).2) := by
  obtain ⟨b, off, e, hl, hc⟩ := h hne
  exact ⟨b, off, e, fun W hb => ⟨Nat.lt_of_lt_of_le hl hb.size, fun k hk => ⟨(hb.cell (p := ⟨b, off + k * 2, none⟩) hl).trans (hc k hk).1, (hb.cell (p := ⟨b, off + k * 2 + 1, none⟩) hl).trans (hc k hk).2⟩⟩⟩
set_option maxRecDepth 100000 in
theorem eq_hit (W : World) (x e : Int × Int) (b : Bool) (h : hit x e = b) : (Op.equalIn 10000 30 (.agg #[.int .i64 x.1, .int .i64 x.2]) (.agg #[.int .i64 e.1, .int .i64 e.2])).run Try.prog W = .ok b W := by
  rw [eqPos, ← h]
  rfl
set_option maxRecDepth 100000 in
theorem belN' (w : World) (n : Nat) : Go.RowKit.Below w.heap.size w (w.drewN n) := ⟨rfl, rfl, rfl, Nat.le_refl _, fun _ _ => rfl⟩
end Go.Proofs.Ytnkdbpbfapdfeaa
