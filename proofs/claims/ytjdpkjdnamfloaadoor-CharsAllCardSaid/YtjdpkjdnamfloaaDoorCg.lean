/- The walks of the laws of chars: awake, CharsMaps. -/
import Derived.Test.YtjdpkjdnamfloaaDoorCf
import Derived.Test.YtjdpkjdnamfloaaDoorCh
import Derived.Deep.RegionHeld3
namespace Go.Proofs.YtjdpkjdnamfloaaDoor
open Go.RowKit

set_option maxHeartbeats 2000000 in
theorem awake_any (w : World) (hT : CT w) : Calls Tryd.prog 11 #[] w fun e w' => e = .returned (.bool true) ∧ Below w.heap.size w w' := by
  have HN : Hid (∀ W, Calls Tryd.prog 12 #[.agg #[.int .i64 66, .int .i64 66, .int .i64 66, .int .i64 66, .int .i64 0, .int .i64 0], .string ⟨#[40]⟩, .int .u8 48] W fun e w' => e = .returned (.agg #[.int .i64 48, .int .i64 66, .int .i64 66, .int .i64 66, .int .i64 0, .int .i64 0]) ∧ Below W.heap.size W w') := Lib.hid fun W => name_any 66 66 66 66 0 0 48 ⟨#[40]⟩ W
  have HM : Hid (∀ W, Below w.heap.size w W → Calls Tryd.prog 8 #[.agg #[.int .i64 48, .int .i64 66, .int .i64 66, .int .i64 66, .int .i64 0, .int .i64 0], .int .i32 113] W fun e w' => e = .returned (.tuple #[.int .i32 9472, .agg #[.int .i64 48, .int .i64 66, .int .i64 66, .int .i64 66, .int .i64 0, .int .i64 0]]) ∧ Below W.heap.size W w') := Lib.hid fun W hW => map_any 48 66 66 66 0 0 113 W (hT.below hW)
  have hq4 := fun W => eq4b W 48 66 66 66
  have hg4 : Tryd.prog.eqGuardType Tryd.prog.depth 22 = false := by kernel_rfl
  clear hT
  go_enter Tryd.func11, Tryd.ntmps11
  go_wp2_with (first
    | (go_at_call 18; refine (new_any _).mono ?_; rintro e w1 ⟨rfl, hb1⟩)
    | (go_at_call 12; refine (HN.out _).mono ?_; rintro e w2 ⟨rfl, hb2⟩; have HB2 := Lib.hid (bel0 hb1 hb2))
    | (go_at_call 8; refine (HM.out _ HB2.out).mono ?_; rintro e w3 ⟨rfl, hb3⟩; have HB3 := Lib.hid (bel0 HB2.out hb3)))
  go_ret
  exact ⟨rfl, HB3.out.alloc HB3.out.size _⟩

set_option maxHeartbeats 4000000 in
theorem charsMaps_law (a b c d u o r : Int) (w : World) (hT : CT w) :
    Calls Tryd.prog 3 #[.agg #[.int .i64 a, .int .i64 b, .int .i64 c, .int .i64 d, .int .i64 u, .int .i64 o], .int .i32 r] w fun e w' => e = .returned (.bool true) ∧ Below w.heap.size w w' := by
  have HA : Hid (∀ W, Below w.heap.size w W → Calls Tryd.prog 11 #[] W fun e w' => e = .returned (.bool true) ∧ Below W.heap.size W w') := Lib.hid fun W hW => awake_any W (hT.below hW)
  have HM : Hid (∀ W, Below w.heap.size w W → Calls Tryd.prog 8 #[.agg #[.int .i64 a, .int .i64 b, .int .i64 c, .int .i64 d, .int .i64 u, .int .i64 o], .int .i32 r] W fun e w' => e = .returned (.tuple #[.int .i32 (printZ (setZ a b c d (meantZ u o)) r), .agg #[.int .i64 a, .int .i64 b, .int .i64 c, .int .i64 d, .int .i64 u, .int .i64 0]]) ∧ Below W.heap.size W w') := Lib.hid fun W hW => map_any a b c d u o r W (hT.below hW)
  have HR : Hid (∀ W, Calls Tryd.prog 9 #[.agg #[.int .i64 a, .int .i64 b, .int .i64 c, .int .i64 d, .int .i64 u, .int .i64 o], .int .i32 r] W fun e w' => e = .returned (.tuple #[.int .i32 (printZ (setZ a b c d (meantZ u o)) r), .agg #[.int .i64 a, .int .i64 b, .int .i64 c, .int .i64 d, .int .i64 u, .int .i64 0]]) ∧ Below W.heap.size W w') := Lib.hid fun W => refMap_any a b c d u o r W
  have hqS := fun W => eqS W a b c d u 0
  have hgS : Tryd.prog.eqGuardType Tryd.prog.depth 28 = false := by kernel_rfl
  clear hT
  generalize printZ (setZ a b c d (meantZ u o)) r = p at *
  go_enter Tryd.func3, Tryd.ntmps3
  go_wp2_with (first
    | (go_at_call 8; (with_reducible refine (HM.out _ (belA (Below.refl _ _) _)).mono ?_); rintro e w3 ⟨rfl, hb3⟩; have HB3 := Lib.hid (bel1 (Below.refl _ w) hb3); obtain ⟨q0, q1, q2, q3, q4, q5⟩ := cells6 hb3; have hz3 := sz1 hb3)
    | (go_at_call 10; (with_reducible refine (ofS_any _ _ _ _ _ _ _).mono ?_); rintro e w4 ⟨rfl, hb4⟩; have HB4 := Lib.hid (bel1 HB3.out hb4))
    | (go_at_call 9; (with_reducible refine (HR.out _).mono ?_); rintro e w5 ⟨rfl, hb5⟩; have HB5 := Lib.hid (bel0 HB4.out hb5); obtain ⟨p0, p1, p2, p3, p4, p5⟩ := cells6 (bel0 hb4 hb5); have hz5 : w3.heap.size < w5.heap.size := sz1 (bel0 hb4 hb5)))
  go_region_with (first
    | (go_at_call 10; (with_reducible refine (ofS_any _ _ _ _ _ _ _).mono ?_); rintro e w6 ⟨rfl, hb6⟩; have HB6 := Lib.hid (bel1 HB5.out (belD hb6)); obtain ⟨hc6, hf6⟩ := bcell hb6; have hz6 := sz1 (belD hb6))
    | (go_at_call 11; (with_reducible refine (HA.out _ HB6.out).mono ?_); rintro e w7 ⟨rfl, hb7⟩; have HB7 := Lib.hid (bel0 HB6.out hb7)))
  all_goals
    go_wp2
    go_ret
    exact ⟨rfl, HB7.out⟩

end Go.Proofs.YtjdpkjdnamfloaaDoor
