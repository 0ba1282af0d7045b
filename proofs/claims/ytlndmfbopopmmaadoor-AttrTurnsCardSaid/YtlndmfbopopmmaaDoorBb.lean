/- The walks of the document's at and extended. -/
import Derived.Test.YtlndmfbopopmmaaDoorBa
namespace Go.Proofs.YtlndmfbopopmmaaDoor
open Go.RowKit

theorem most0_same (n : Int) (w : World) : Calls Tryd.prog 36 #[.int .i64 n] w fun e w' => e = .returned (.int .i64 (most0Z n)) ∧ w' = w := by
  by_cases h : n < 0
  · rw [show most0Z n = 0 from if_pos h]
    go_enter Tryd.func36, Tryd.ntmps36
    go_wp2
    go_ret
    exact ⟨rfl, rfl⟩
  · rw [show most0Z n = n from if_neg h]
    have hd : decide (n < 0) = false := decide_eq_false h
    go_enter Tryd.func36, Tryd.ntmps36
    go_wp2
    go_ret
    exact ⟨rfl, rfl⟩
theorem at_out (A : Option Addr) (n c : Nat) (j : Int) (i : Nat) (hj : j = i) (hi : n ≤ i) (w : World) : Calls Tryd.prog 27 #[.slice A n c, .int .i64 j] w fun e w' => e = .returned (.tuple #[.int .i64 0, .bool false]) ∧ w = w' := by
  have hd : decide (j ≥ n) = true := decide_eq_true (by omega)
  have hd2 : (n : Int) ≤ j := by omega
  clear hj hi
  go_enter Tryd.func27, Tryd.ntmps27
  go_wp2
  go_ret2
  exact ⟨rfl, rfl⟩
theorem at_in (b off n c i br offr m cr : Nat) (x : Int) (hi : i < n) (hm : 0 < m) (w : World) (hc : w.cell? ⟨b, off + i, none⟩ = some (.slice (some ⟨br, offr, none⟩) m cr)) (hx : w.cell? ⟨br, offr, none⟩ = some (.int .i64 x)) :
    Calls Tryd.prog 27 #[.slice (some ⟨b, off, none⟩) n c, .int .i64 i] w fun e w' => e = .returned (.tuple #[.int .i64 (most0Z x), .bool true]) ∧ w = w' := by
  have h1 : (i : Int) < n := by omega
  have h2 : (0 : Int) < m := by omega
  by_cases h : x < 0
  · rw [show most0Z x = 0 from if_pos h]
    go_enter Tryd.func27, Tryd.ntmps27
    go_wp2
    go_ret2
    exact ⟨rfl, rfl⟩
  · rw [show most0Z x = x from if_neg h]
    have hd : decide (x < 0) = false := decide_eq_false h
    clear h
    go_enter Tryd.func27, Tryd.ntmps27
    go_wp2
    go_ret2
    exact ⟨rfl, rfl⟩
/-- The value of the i-th group. -/
def atZ (L : List (List Int)) (i : Nat) : Int := hd0 (L[i]?.getD [])
theorem at_any (A : Option Addr) (L : List (List Int)) (n c : Nat) (j : Int) (i : Nat) (hj : j = i) (hn : n = L.length) (hne : ∀ g ∈ L, g ≠ []) (w : World) (hR : RG w w.heap.size A L) :
    Calls Tryd.prog 27 #[.slice A n c, .int .i64 j] w fun e w' => e = .returned (.tuple #[.int .i64 (atZ L i), .bool (decide (i < n))]) ∧ w = w' := by
  by_cases hi : i < n
  · subst hj
    rw [decide_eq_true hi]
    obtain ⟨b, off, rfl, _, hc⟩ := hR (fun e => by rw [e] at hn; simp at hn; omega)
    obtain ⟨Ai, ci, h1, h2, _⟩ := hc i (by omega)
    have hgn : L[i]?.getD [] ≠ [] := by
      rw [List.getElem?_eq_getElem (by omega)]
      exact hne _ (List.getElem_mem _)
    obtain ⟨br, offr, rfl, _, hr⟩ := h2 hgn
    have hl := List.length_pos_iff.2 hgn
    have e : atZ L i = most0Z ((L[i]?.getD [])[0]?.getD 0) := by
      unfold atZ hd0
      generalize L[i]?.getD [] = g at *
      cases g with
      | nil => exact absurd rfl hgn
      | cons x r => rfl
    rw [e]
    exact at_in b off n c i br offr _ ci _ hi hl w h1 (hr 0 hl)
  · rw [decide_eq_false hi]
    have e : atZ L i = 0 := by
      unfold atZ
      rw [List.getElem?_eq_none (by omega)]
      rfl
    rw [e]
    exact at_out A n c j i hj (by omega) w

end Go.Proofs.YtlndmfbopopmmaaDoor
