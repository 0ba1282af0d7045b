/- The walk of the law CharsOnce. -/
import Derived.Test.YtjdpkjdnamfloaaDoorCg
namespace Go.Proofs.YtjdpkjdnamfloaaDoor
open Go.RowKit

set_option maxHeartbeats 4000000 in
theorem charsOnce_law (a b c d u o x y : Int) (w : World) (hT : CT w) :
    Calls Tryd.prog 6 #[.agg #[.int .i64 a, .int .i64 b, .int .i64 c, .int .i64 d, .int .i64 u, .int .i64 o], .int .i32 x, .int .i32 y] w fun e w' => e = .returned (.bool true) ∧ Below w.heap.size w w' := by
  have HA : Hid (∀ W, Below w.heap.size w W → Calls Tryd.prog 11 #[] W fun e w' => e = .returned (.bool true) ∧ Below W.heap.size W w') := Lib.hid fun W hW => awake_any W (hT.below hW)
  have HL : Hid (∀ W, Calls Tryd.prog 16 #[.agg #[.int .i64 a, .int .i64 b, .int .i64 c, .int .i64 d, .int .i64 u, .int .i64 0], .int .u8 78] W fun e w' => e = .returned (.agg #[.int .i64 a, .int .i64 b, .int .i64 c, .int .i64 d, .int .i64 u, .int .i64 2]) ∧ Below W.heap.size W w') := Lib.hid fun W => lock_any a b c d u 0 78 W
  have H2 : Hid (∀ W, Below w.heap.size w W → Calls Tryd.prog 8 #[.agg #[.int .i64 a, .int .i64 b, .int .i64 c, .int .i64 d, .int .i64 u, .int .i64 2], .int .i32 x] W fun e w' => e = .returned (.tuple #[.int .i32 (printZ c x), .agg #[.int .i64 a, .int .i64 b, .int .i64 c, .int .i64 d, .int .i64 u, .int .i64 0]]) ∧ Below W.heap.size W w') := Lib.hid fun W hW => map_any a b c d u 2 x W (hT.below hW)
  have H0 : Hid (∀ W, Below w.heap.size w W → Calls Tryd.prog 8 #[.agg #[.int .i64 a, .int .i64 b, .int .i64 c, .int .i64 d, .int .i64 u, .int .i64 0], .int .i32 y] W fun e w' => e = .returned (.tuple #[.int .i32 (printZ (setZ a b c d (meantZ u 0)) y), .agg #[.int .i64 a, .int .i64 b, .int .i64 c, .int .i64 d, .int .i64 u, .int .i64 0]]) ∧ Below W.heap.size W w') := Lib.hid fun W hW => map_any a b c d u 0 y W (hT.below hW)
  have Ht : Hid (∀ W, Below w.heap.size w W → Calls Tryd.prog 8 #[.agg #[.int .i64 a, .int .i64 b, .int .i64 c, .int .i64 d, .int .i64 2, .int .i64 0], .int .i32 x] W fun e w' => e = .returned (.tuple #[.int .i32 (printZ c x), .agg #[.int .i64 a, .int .i64 b, .int .i64 c, .int .i64 d, .int .i64 2, .int .i64 0]]) ∧ Below W.heap.size W w') := Lib.hid fun W hW => map_any a b c d 2 0 x W (hT.below hW)
  have hq := fun W => eqState W a b c d u 0
  have hg : Tryd.prog.eqGuardType Tryd.prog.depth 24 = false := by kernel_rfl
  have H0' := H0
  clear hT
  generalize printZ c x = p at *
  generalize printZ (setZ a b c d (meantZ u 0)) y = q at *
  go_enter Tryd.func6, Tryd.ntmps6
  go_wp2_with (first
    | (go_at_call 16; (with_reducible refine (HL.out _).mono ?_); rintro e w1 ⟨rfl, hb1⟩; have HB1 := Lib.hid (bel1 (Below.refl _ w) hb1); obtain ⟨q0, q1, q2, q3, q4, q5⟩ := cells6 hb1; have hz1 := sz1 hb1)
    | (go_at_call 8; (with_reducible refine (H2.out _ HB1.out).mono ?_); clear H2; rintro e w2 ⟨rfl, hb2⟩; have HB2 := Lib.hid (bel0 HB1.out hb2); have HS2 := Lib.hid (bel0 hb1 hb2); clear q0 q1 q2 q3 q4 q5; obtain ⟨q0, q1, q2, q3, q4, q5⟩ := cells6 HS2.out; have hz2 := sz1 HS2.out)
    | (go_at_call 8; (with_reducible refine (H0.out _ (belA HB2.out _)).mono ?_); clear H0; rintro e w3 ⟨rfl, hb3⟩; have HB3 := Lib.hid (bel1 HB2.out hb3); have HS3 := Lib.hid (bel1 HS2.out hb3); have HT3 := Lib.hid hb3; clear q0 q1 q2 q3 q4 q5; obtain ⟨q0, q1, q2, q3, q4, q5⟩ := cells6 HS3.out; have hz3 := sz1 HS3.out; have hy3 := sz1 hb3; clear hb3)
    | (go_at_call 8; (with_reducible refine (H0'.out _ (belA HB3.out _)).mono ?_); clear H0'; rintro e w4 ⟨rfl, hb4⟩; have HB4 := Lib.hid (bel1 HB3.out hb4); have HS4 := Lib.hid (bel1 HS3.out hb4); have HT4 := Lib.hid (bel1 HT3.out hb4); have HU4 := Lib.hid hb4; clear q0 q1 q2 q3 q4 q5; obtain ⟨q0, q1, q2, q3, q4, q5⟩ := cells6 HS4.out; have hz4 := sz1 HS4.out; have hy4 := sz1 HT4.out; have hx4 := sz1 hb4; clear hb4)
    | (go_at_call 8; (with_reducible refine (Ht.out _ (belA (belA HB4.out _) _)).mono ?_); clear Ht; rintro e w5 ⟨rfl, hb5⟩; have HB5 := Lib.hid (bel2 HB4.out hb5); have HS5 := Lib.hid (bel2 HS4.out hb5); have HT5 := Lib.hid (bel2 HT4.out hb5); have HU5 := Lib.hid (bel2 HU4.out hb5); clear q0 q1 q2 q3 q4 q5 hb5; obtain ⟨q0, q1, q2, q3, q4, q5⟩ := cells6 HS5.out; obtain ⟨t0, t1, t2, t3, t4, t5⟩ := cells6 HT5.out; obtain ⟨s0, s1, s2, s3, s4, s5⟩ := cells6 HU5.out; have hz5 := sz1 HS5.out; have hy5 := sz1 HT5.out; have hx5 := sz1 HU5.out)
    | (go_at_call 11; (with_reducible refine (HA.out _ (belA HB5.out _)).mono ?_); rintro e w6 ⟨rfl, hb6⟩; have HB6 := Lib.hid (bel1 HB5.out hb6)))
  go_ret
  exact ⟨rfl, HB6.out⟩

end Go.Proofs.YtjdpkjdnamfloaaDoor
