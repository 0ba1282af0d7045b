/- Slices of scalars that came in, opened. -/
import Derived.Test.YtjdpkjdnamfloaaDoorCl
import Derived.Test.YtjdpkjdnamfloaaDoorCv
import Derived.ProofKit
import Derived.LaidMore
import Derived.OpenShut
import Derived.Stop.Joined
import Derived.PinnedBridge
import Derived.Lib.LaidU8
namespace Go.Proofs.YtjdpkjdnamfloaaDoor
open Go.ChangeShapes Go.WideShapes Go.ChangeAt Go.WideMaps Go.WideElems Go.RowKit

theorem lt_of_cell {w : World} {b o : Nat} {v : Value} (h : w.cell? ⟨b, o, none⟩ = some v) : b < w.heap.size := by
  rcases Nat.lt_or_ge b w.heap.size with hl | hl
  · exact hl
  · simp [World.cell?, Array.getElem?_eq_none hl] at h
theorem c21 : Tryd.prog.cellsOf 21 = 1 := by kernel_rfl
/-- A slice of scalars that came in. -/
theorem open_runes {H : Type} {enc : TypeId × Value → H} {W : World} {A : Option Addr} {n c : Nat} {d : DataW H} {p : List MemPlace} (h : DataW.Trod enc Tryd.prog W 0 (fun _ => true) true 44 (.slice A n c) d p) :
    ∃ xs : List Int, n = xs.length ∧ n ≤ c ∧ c ≤ 9223372036854775807 ∧ RS W W.heap.size A xs := by
  obtain ⟨fuel, hf⟩ := h
  rcases open_ints Tryd.underlying44 Tryd.underlying21 c21 hf with ⟨hcs, _⟩ | ⟨a, len, cap, zs, hcs, _, hl, hm, hz, _, hcell, _⟩
  · have e : Value.slice A n c = .slice none 0 0 := by simpa [Value.cells] using hcs
    injection e with e1 e2 e3
    subst e1; subst e2; subst e3
    exact ⟨[], rfl, Nat.le_refl _, by omega, fun h => absurd rfl h⟩
  · have e : Value.slice A n c = .slice (some a) len cap := by simpa [Value.cells] using hcs
    injection e with e1 e2 e3
    subst e1; subst e2; subst e3
    have hzl : zs.length = c := by simpa using hz
    refine ⟨zs.take n, by simp; omega, hl, by unfold maxLen at hm; omega, fun hne => ?_⟩
    have hpos : 0 < zs.length := by
      rcases Nat.eq_zero_or_pos zs.length with h0 | h0
      · rw [List.eq_nil_of_length_eq_zero h0] at hne; simp at hne
      · exact h0
    obtain ⟨b, off, rfl, hc⟩ := ints_at hcell hpos
    refine ⟨b, off, rfl, lt_of_cell (hc 0 hpos), fun k hk => ?_⟩
    have hk' : k < n := by simp at hk; omega
    rw [hc k (by omega), List.getElem?_take, if_pos hk']
    rfl

end Go.Proofs.YtjdpkjdnamfloaaDoor
