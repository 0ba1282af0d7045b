/- What the frames of jump's laws need: the program's own facts; numbers that came in, opened. -/
import Derived.Test.YtfgnlohnalgnpaaJ3
import Derived.ProofKit
import Derived.OpenShut
import Derived.Deep.Slices
namespace Go.Proofs.Ytfgnlohnalgnpaa
open Go.ChangeShapes Go.WideShapes Go.ChangeAt Go.WideMaps Go.WideElems Go.RowKit

theorem own : ownKnob Try.prog.godebug = none := by kernel_rfl
theorem laidOut : laidOutB Try.prog = true := by kernel_rfl
theorem cInt : Try.prog.cellsOf 3 = 1 := by kernel_rfl
theorem inB_wf {x : Int} (h : (Lit.int .i64 x).wf = true) : InB x := bounds_i64 h
/-- A slice of numbers that came in. -/
theorem open_nums {H : Type} {enc : TypeId × Value → H} {W : World} {A : Option Addr} {n c : Nat} {d : DataW H} {p : List MemPlace} (h : DataW.Trod enc Try.prog W 0 (fun _ => true) true 22 (.slice A n c) d p) :
    ∃ xs : List Int, n = xs.length ∧ (∀ x ∈ xs, InB x) ∧ RI W W.heap.size A xs := by
  obtain ⟨fuel, hf⟩ := h
  rcases open_ints Try.underlying22 Try.underlying3 cInt hf with ⟨hcs, _⟩ | ⟨a, len, cap, zs, hcs, _, hl, hm, hz, _, hcell, hwf⟩
  · have e : Value.slice A n c = .slice none 0 0 := by simpa [Value.cells] using hcs
    injection e with e1 e2 e3
    subst e1; subst e2; subst e3
    exact ⟨[], rfl, fun x hx => absurd hx (by simp), fun h => absurd rfl h⟩
  · have e : Value.slice A n c = .slice (some a) len cap := by simpa [Value.cells] using hcs
    injection e with e1 e2 e3
    subst e1; subst e2; subst e3
    have hzl : zs.length = c := by simpa using hz
    refine ⟨zs.take n, by simp; omega, fun x hx => inB_wf (hwf x (List.mem_of_mem_take hx)), fun hne => ?_⟩
    have hpos : 0 < n := by
      rcases Nat.eq_zero_or_pos n with h0 | h0
      · subst h0
        simp at hne
      · exact h0
    obtain ⟨b, off, spot⟩ := a
    have k0 := hcell 0 (by omega)
    have hspot : spot = none := by simpa [Addr.add] using World.cell?_spot k0
    subst hspot
    have hadd : ∀ i : Nat, ((⟨b, off, none⟩ : Addr).add i) = ⟨b, off + i, none⟩ := fun i => by
      unfold Addr.add
      by_cases h1 : i = 0 <;> simp [h1]
    refine ⟨b, off, rfl, ?_, fun k hk => ?_⟩
    · rw [hadd] at k0
      rcases Nat.lt_or_ge b W.heap.size with hl2 | hl2
      · exact hl2
      · simp [World.cell?, Array.getElem?_eq_none hl2] at k0
    · have hk' : k < n ∧ k < zs.length := by simp at hk; omega
      have h1 := hcell k hk'.2
      rw [hadd] at h1
      rw [h1, List.getElem?_take, if_pos hk'.1, List.getD_eq_getElem?_getD]

end Go.Proofs.Ytfgnlohnalgnpaa
