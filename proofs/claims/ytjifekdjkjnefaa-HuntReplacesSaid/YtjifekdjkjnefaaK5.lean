/- The walks of the document's stands, All, Same, and of great. -/
import Derived.Test.YtjifekdjkjnefaaK4
namespace Go.Proofs.Ytjifekdjkjnefaa
open Go.RowKit

set_option maxRecDepth 100000 in
theorem stands_any (T : List UInt8) (Ns : List (List UInt8)) (a i : Nat) (hT : T.length ≤ 1000000) (hN : (nAt Ns i).length ≤ 1000000) (w : World) :
    Calls Try.prog 24 #[.string (bsB T), .string (bsB (nAt Ns i)), .int .i64 a] w fun e w' => e = .returned (.bool (stB T Ns a i)) ∧ Below w.heap.size w w' := by
  have hsT : ((bsB T).size : Int) = T.length := by rw [bsB_size]
  have hsN : ((bsB (nAt Ns i)).size : Int) = (nAt Ns i).length := by rw [bsB_size]
  have hw0 : IntKind.i64.wrap ((T.length : Int) - (nAt Ns i).length) = (T.length : Int) - (nAt Ns i).length := IntWalk.i64_in _ (by omega)
  by_cases h0 : nAt Ns i = []
  · have hst : stB T Ns a i = false := decide_eq_false fun h => h.1 h0
    have hz : ¬ (0 : Int) < (nAt Ns i).length := by rw [h0]; decide
    rw [hst]
    clear h0 hst
    generalize (nAt Ns i).length = nl at *
    generalize bsB (nAt Ns i) = sN at *
    generalize bsB T = sT at *
    go_enter Try.func24, Try.ntmps24
    go_wp2
    go_ret
    exact ⟨rfl, Below.refl _ _⟩
  · have hp := List.length_pos_iff.2 h0
    have hz : (0 : Int) < (nAt Ns i).length := by omega
    by_cases hle : a + (nAt Ns i).length ≤ T.length
    · have hlei : (a : Int) ≤ (T.length : Int) - (nAt Ns i).length := by omega
      have HS : Hid (Calls Try.prog 35 #[.string (bsB T), .string (bsB (nAt Ns i)), .int .i64 a, .bool false] w fun e w' => e = .returned (.bool (stB T Ns a i)) ∧ Below w.heap.size w w') := Lib.hid (by
        have h1 := refSame_any T (nAt Ns i) (by omega) (by omega) a hle false w
        have e : decide (Stands (meanL false) T (nAt Ns i) a) = stB T Ns a i := by
          unfold stB
          have : (nAt Ns i ≠ [] ∧ Stands idL T (nAt Ns i) a) ↔ Stands idL T (nAt Ns i) a := ⟨fun h => h.2, fun h => ⟨h0, h⟩⟩
          rw [decide_eq_decide]
          exact this.symm
        rwa [e] at h1)
      clear h0 hp hle
      generalize stB T Ns a i = rb at *
      generalize (nAt Ns i).length = nl at *
      generalize bsB (nAt Ns i) = sN at *
      generalize bsB T = sT at *
      go_enter Try.func24, Try.ntmps24
      go_wp2_with (go_at_call 35; (with_reducible refine (HS.out).mono ?_); rintro e w2 ⟨rfl, hb2⟩; have HB2 := Lib.hid hb2; clear hb2)
      go_ret
      exact ⟨rfl, HB2.out⟩
    · have hlei : ¬ (a : Int) ≤ (T.length : Int) - (nAt Ns i).length := by omega
      have hst : stB T Ns a i = false := decide_eq_false fun h => hle h.2.1
      rw [hst]
      clear h0 hp hle hst
      generalize (nAt Ns i).length = nl at *
      generalize bsB (nAt Ns i) = sN at *
      generalize bsB T = sT at *
      go_enter Try.func24, Try.ntmps24
      go_wp2
      go_ret
      exact ⟨rfl, Below.refl _ _⟩
/-- Hits in memory. -/
def RH (w : World) (B : Nat) (A : Option Addr) (L : List (Nat × Nat)) : Prop :=
  L ≠ [] → ∃ b off, A = some ⟨b, off, none⟩ ∧ b < B ∧ ∀ k, k < L.length → w.cell? ⟨b, off + k * 2, none⟩ = some (.int .i64 ((L[k]?.getD (0, 0)).1 : Nat)) ∧ w.cell? ⟨b, off + k * 2 + 1, none⟩ = some (.int .i64 ((L[k]?.getD (0, 0)).2 : Nat))
theorem RH.below {w w' : World} {B : Nat} {A : Option Addr} {L : List (Nat × Nat)} (h : RH w B A L) (hb : Below B w w') : RH w' B A L := fun hn => by
  obtain ⟨b, off, e, hlt, hc⟩ := h hn
  exact ⟨b, off, e, hlt, fun k hk => ⟨(hb.cell (p := ⟨b, off + k * 2, none⟩) hlt).trans (hc k hk).1, (hb.cell (p := ⟨b, off + k * 2 + 1, none⟩) hlt).trans (hc k hk).2⟩⟩
theorem RH.past {w w' : World} {A : Option Addr} {L : List (Nat × Nat)} (h : RH w w.heap.size A L) (hb : Below w.heap.size w w') : RH w' w'.heap.size A L := fun hn => by
  obtain ⟨b, off, e, hlt, hc⟩ := (h.below hb) hn
  exact ⟨b, off, e, Nat.lt_of_lt_of_le hlt hb.size, hc⟩
theorem htV_at : ∀ (L : List (Nat × Nat)) (k : Nat), k < L.length → (htV L)[k * 2]? = some (.int .i64 ((L[k]?.getD (0, 0)).1 : Nat)) ∧ (htV L)[k * 2 + 1]? = some (.int .i64 ((L[k]?.getD (0, 0)).2 : Nat))
  | [], k, h => by simp at h
  | x :: t, 0, _ => ⟨rfl, rfl⟩
  | x :: t, k + 1, h => by
    have := htV_at t k (by simpa using h)
    rw [show (k + 1) * 2 = k * 2 + 1 + 1 by omega]
    exact this
theorem htV_len : ∀ L : List (Nat × Nat), (htV L).length = L.length * 2
  | [] => rfl
  | x :: t => by
    have := htV_len t
    show (htV t).length + 1 + 1 = _
    rw [this, List.length_cons]
    omega
theorem rh_own {W : World} {B n c : Nat} {A : Option Addr} {L : List (Nat × Nat)} (h : W.ownsRow B 33 2 (.slice A n c) n (htV L)) (hn : n = L.length) : RH W W.heap.size A L := fun hne => by
  have hp := List.length_pos_iff.2 hne
  rcases h.2 with ⟨_, h0⟩ | ⟨g, cap, cur, e, _, h4, h5, _, h7, h8⟩
  · omega
  · injection e with e1 _ e3
    subst e1
    refine ⟨g, 0, rfl, (Array.getElem?_eq_some_iff.1 h4).1, fun k hk => ?_⟩
    have h1 := htV_at L k hk
    have e1 : (htV L)[k * 2]? = cur[k * 2]? := by rw [← h8, List.getElem?_take, if_pos (by omega), Array.getElem?_toList]
    have e2 : (htV L)[k * 2 + 1]? = cur[k * 2 + 1]? := by rw [← h8, List.getElem?_take, if_pos (by omega), Array.getElem?_toList]
    rw [Nat.zero_add]
    exact ⟨row_cell h4 _ _ (e1.symm.trans h1.1), row_cell h4 _ _ (e2.symm.trans h1.2)⟩

end Go.Proofs.Ytjifekdjkjnefaa
