/- What the frames of hunt's laws need: the program's own facts; strings that came in, opened. -/
import Derived.Test.YtjifekdjkjnefaaL1
import Derived.ProofKit
import Derived.OpenShut
import Derived.Deep.Slices
import Derived.SliceStrings
namespace Go.Proofs.Ytjifekdjkjnefaa
open Go.ChangeShapes Go.WideShapes Go.ChangeAt Go.WideMaps Go.WideElems Go.RowKit

theorem own : ownKnob Try.prog.godebug = none := by kernel_rfl
theorem laidOut : laidOutB Try.prog = true := by kernel_rfl
theorem cStr : Try.prog.cellsOf 9 = 1 := by kernel_rfl
/-- A slice of strings that came in. -/
theorem open_strs {H : Type} {enc : TypeId × Value → H} {W : World} {A : Option Addr} {n c : Nat} {d : DataW H} {p : List MemPlace} (h : DataW.Trod enc Try.prog W 0 (fun _ => true) true 22 (.slice A n c) d p) :
    ∃ xs : List (List UInt8), n = xs.length ∧ n ≤ 9223372036854775807 ∧ RT W W.heap.size A xs := by
  obtain ⟨fuel, hf⟩ := h
  rcases open_strings Try.underlying22 Try.underlying9 cStr hf with ⟨hcs, _⟩ | ⟨a, len, cap, ss, hcs, _, hl, hm, hz, _, hcell, _⟩
  · have e : Value.slice A n c = .slice none 0 0 := by simpa [Value.cells] using hcs
    injection e with e1 e2 e3
    subst e1; subst e2; subst e3
    exact ⟨[], rfl, by omega, fun h => absurd rfl h⟩
  · have e : Value.slice A n c = .slice (some a) len cap := by simpa [Value.cells] using hcs
    injection e with e1 e2 e3
    subst e1; subst e2; subst e3
    have hzl : ss.length = c := by simpa using hz
    refine ⟨(ss.take n).map fun s => s.data.toList, by simp; omega, by unfold maxLen at hm; omega, fun hne => ?_⟩
    have hpos : 0 < n := by
      rcases Nat.eq_zero_or_pos n with h0 | h0
      · subst h0
        simp at hne
      · exact h0
    obtain ⟨b, off, spot⟩ := a
    have k0 := hcell 0 (by omega)
    have hspot : spot = none := by simpa [Addr.add] using World.cell?_spot k0
    subst hspot
    have hadd : ∀ i : Nat, ((⟨b, off, none⟩ : Addr).add i) = ⟨b, off + i, none⟩ := fun i => by
      unfold Addr.add
      by_cases h1 : i = 0 <;> simp [h1]
    refine ⟨b, off, rfl, ?_, fun k hk => ?_⟩
    · rw [hadd] at k0
      rcases Nat.lt_or_ge b W.heap.size with hl2 | hl2
      · exact hl2
      · simp [World.cell?, Array.getElem?_eq_none hl2] at k0
    · have hk' : k < n ∧ k < ss.length := by simp at hk; omega
      have h1 := hcell k hk'.2
      rw [hadd] at h1
      rw [h1]
      unfold nAt
      rw [List.getElem?_map, List.getElem?_take, if_pos hk'.1, List.getElem?_eq_getElem hk'.2]
      simp only [Option.map_some, Option.getD_some]
      rw [List.getD_eq_getElem?_getD, List.getElem?_eq_getElem hk'.2]
      simp only [Option.getD_some]
      rw [← bs_of]
theorem huntAll_str (s : ByteArray) (xs : List (List UInt8)) (n c : Nat) (A : Option Addr) (hn : n = xs.length) (h63 : n ≤ 9223372036854775807) (w : World) (hR : RT w w.heap.size A xs) : Calls Try.prog 3 #[.string s, .slice A n c] w fun e w' => e = .returned (.bool true) ∧ Below w.heap.size w w' := by
  rw [bs_of s]
  exact huntAll_law _ xs n c A hn h63 w hR

end Go.Proofs.Ytjifekdjkjnefaa
