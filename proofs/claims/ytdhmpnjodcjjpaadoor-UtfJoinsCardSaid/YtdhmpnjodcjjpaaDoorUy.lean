/- The walks of the laws UtfAll, UtfSizes. -/
import Derived.Test.YtdhmpnjodcjjpaaDoorUx
import Derived.Test.YtdhmpnjodcjjpaaDoorUh
namespace Go.Proofs.YtdhmpnjodcjjpaaDoor
open Go.RowKit Go.Shelf

theorem sameB_refl (xs : List Int) : sameB xs xs = true := decide_eq_true rfl
/-- What the document's All answers, as Same takes it. -/
theorem refAll_rs (A : Option Addr) (zs : List Nat) (n c : Nat) (hn : n = zs.length) (hlen : n ≤ 100000) (hcap : n ≤ c) (h63 : c ≤ 9223372036854775807) (w : World) (hR : BS w w.heap.size A zs) :
    Calls Tryd.prog 13 #[.slice A n c] w (AllRS zs w) := by
  refine (refAll_all A zs n c hn hlen hcap h63 w hR).mono ?_
  rintro e w' ⟨v, rfl, ho, hb⟩
  obtain ⟨A', c', rfl, _⟩ := own_form ho
  rw [← intsOf_enc] at ho
  exact ⟨A', c', rfl, RS.of_own ho, hb⟩

set_option maxHeartbeats 2000000 in
theorem utfAll_law (A : Option Addr) (zs : List Nat) (n c : Nat) (hn : n = zs.length) (hcap : n ≤ c) (h63 : c ≤ 9223372036854775807) (w : World) (h4 : max 0 1 + 1 ≤ w.heap.size) (hT : UT w) (hR : BS w w.heap.size A zs) :
    Calls Tryd.prog 3 #[.slice A n c] w fun e w' => e = .returned (.bool true) ∧ Below w.heap.size w w' := by
  have HA : Hid (∀ W, Below w.heap.size w W → Calls Tryd.prog 10 #[] W fun e w' => e = .returned (.bool true) ∧ Below W.heap.size W w') := Lib.hid fun W hW => awake_any W (Nat.le_trans h4 hW.size) (hT.below hW)
  by_cases hl : 300 < n
  · have hli : (300 : Int) < n := by omega
    clear hn hcap hR hT
    go_enter Tryd.func3, Tryd.ntmps3
    go_wp2_with (go_at_call 10; refine (HA.out _ (Below.refl _ _)).mono ?_; rintro e w1 ⟨rfl, hb1⟩)
    go_ret
    exact ⟨rfl, hb1⟩
  · have hli : ¬ (300 : Int) < n := by omega
    have h1 := all_rs A zs n c hn (by omega) hcap h63 w h4 hT hR
    have H2 : Hid (∀ W, Below w.heap.size w W → Calls Tryd.prog 13 #[.slice A n c] W (AllRS zs W)) := Lib.hid fun W hW => refAll_rs A zs n c hn (by omega) hcap h63 W ((hR.below hW).more hW.size)
    have HS : Hid (∀ (W : World) (A1 A2 : Option Addr) (c1 c2 : Nat), RS W W.heap.size A1 (intsOf (allL zs)) → RS W W.heap.size A2 (intsOf (allL zs)) → Calls Tryd.prog 11 #[.slice A1 (allL zs).length c1, .slice A2 (allL zs).length c2] W fun e w' => e = .returned (.bool true) ∧ Below W.heap.size W w') := Lib.hid fun W A1 A2 c1 c2 r1 r2 => by
      have hll : (allL zs).length ≤ 9223372036854775807 := by
        have := rdL_len zs
        unfold allL
        rw [List.length_append, List.length_map]
        split <;> simp <;> omega
      have := same_any A1 A2 (intsOf (allL zs)) (intsOf (allL zs)) (allL zs).length (allL zs).length c1 c2 (by simp [intsOf]) (by simp [intsOf]) hll W r1 r2
      rw [sameB_refl] at this
      exact this
    unfold AllRS at h1 H2
    clear hn hcap hR hT hl
    generalize (allL zs).length = L at *
    generalize intsOf (allL zs) = zl at *
    go_enter Tryd.func3, Tryd.ntmps3
    go_wp2_with (first
      | (go_at_call 12; (with_reducible refine h1.mono ?_); clear h1; rintro e w1 ⟨A1, c1, rfl, hr1, hb1⟩; have HR1 := Lib.hid hr1; clear hr1)
      | (go_at_call 13; (with_reducible refine (H2.out _ hb1).mono ?_); rintro e w2 ⟨A2, c2, rfl, hr2, hb2⟩; have HR2 := Lib.hid hr2; have HR1' := Lib.hid ((HR1.out.below hb2).more hb2.size); have HB2 := Lib.hid (bel0 hb1 hb2); clear hr2)
      | (go_at_call 11; (with_reducible refine (HS.out _ _ _ _ _ HR1'.out HR2.out).mono ?_); rintro e w3 ⟨rfl, hb3⟩; have HB3 := Lib.hid (bel0 HB2.out hb3))
      | (go_at_call 10; refine (HA.out _ HB3.out).mono ?_; rintro e w4 ⟨rfl, hb4⟩))
    go_ret
    exact ⟨rfl, bel0 HB3.out hb4⟩

end Go.Proofs.YtdhmpnjodcjjpaaDoor
