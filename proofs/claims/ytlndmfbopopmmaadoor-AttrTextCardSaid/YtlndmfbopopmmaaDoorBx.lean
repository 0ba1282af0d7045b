/- The walk of the law AttrText. -/
import Derived.Test.YtlndmfbopopmmaaDoorBm
import Derived.Test.YtlndmfbopopmmaaDoorBj
namespace Go.Proofs.YtlndmfbopopmmaaDoor
open Go.RowKit

set_option maxHeartbeats 4000000 in
theorem attrText_law (fk fn bk bn fl : Int) (h0 : -9223372036854775808 ≤ fl) (h63 : fl ≤ 9223372036854775807) (w : World) (hT : TT w) (hT10 : T10 w.heap.size w) :
    Calls Tryd.prog 5 #[.agg #[.int .i64 fk, .int .i64 fn, .int .i64 bk, .int .i64 bn, .int .i64 fl]] w fun e w' => e = .returned (.bool true) ∧ Below w.heap.size w w' := by
  have HA : Hid (∀ W, Below w.heap.size w W → Calls Tryd.prog 10 #[] W fun e w' => e = .returned (.bool true) ∧ Below W.heap.size W w') := Lib.hid fun W hW => awakeA_any W (hT.below hW) (hT10.on hW hW.size)
  have HD := Lib.hid (fun W => rightD_any fk fn bk bn fl h63 W)
  rw [← right_same fk fn bk bn fl h0 h63] at HD
  have hS0 := as_start w (.int .i64 fk) (.int .i64 fn) (.int .i64 bk) (.int .i64 bn) (.int .i64 fl)
  have HS0 := Lib.hid hS0
  cases hr : rightB fk fn bk bn fl with
  | false =>
    rw [hr] at HD
    have HTX : Hid (∀ W, Calls Tryd.prog 15 #[.agg #[.int .i64 fk, .int .i64 fn, .int .i64 bk, .int .i64 bn, .int .i64 fl]] W fun e w' => e = .returned (.string ⟨#[]⟩) ∧ Below W.heap.size W w') := Lib.hid fun W => attrText_no ⟨fk, fn, bk, bn, fl⟩ W hr
    clear hT hT10 hr hS0 h0 h63
    go_enter Tryd.func5, Tryd.ntmps5
    go_wp2_with (first
      | (go_at_call 9; (with_reducible refine (HD.out _).mono ?_); rintro e w2 ⟨rfl, hb2⟩; have HS2 := Lib.hid (as_step HS0.out hb2); obtain ⟨⟨x0, x1, x2, x3, x4⟩, _⟩ := HS2.out; clear hb2)
      | (go_at_call 15; (with_reducible refine (HTX.out _).mono ?_); rintro e w3 ⟨rfl, hb3⟩; have HS3 := Lib.hid (as_step HS2.out hb3); clear hb3)
      | (go_at_call 10; (with_reducible refine (HA.out _ (as_below HS3.out)).mono ?_); rintro e w4 ⟨rfl, hb4⟩; have HS4 := Lib.hid (as_step HS3.out hb4); clear hb4))
    go_ret
    exact ⟨rfl, as_below HS4.out⟩
  | true =>
    rw [hr] at HD
    have hok : okF fl = true := by
      have h := hr
      rw [right_same fk fn bk bn fl h0 h63] at h
      unfold rightD at h
      simp only [Bool.and_eq_true] at h
      unfold okF
      simp only [Bool.and_eq_true]
      exact h.2.2
    have hf := okF_range hok
    have HTX : Hid (∀ W, Below w.heap.size w W → Calls Tryd.prog 15 #[.agg #[.int .i64 fk, .int .i64 fn, .int .i64 bk, .int .i64 bn, .int .i64 fl]] W fun e w' => e = .returned (.string (bsB (layT [] (numsP ⟨fk, fn, bk, bn, fl⟩)))) ∧ Below W.heap.size W w') := Lib.hid fun W hW => attrText_any ⟨fk, fn, bk, bn, fl⟩ W hr (hT.below hW) (hT10.on hW hW.size)
    have HRX : Hid (∀ W, Calls Tryd.prog 16 #[.agg #[.int .i64 fk, .int .i64 fn, .int .i64 bk, .int .i64 bn, .int .i64 fl]] W fun e w' => e = .returned (.string (bsB (layT [] (numsP ⟨fk, fn, bk, bn, fl⟩)))) ∧ Below W.heap.size W w') := Lib.hid fun W => refText_any ⟨fk, fn, bk, bn, fl⟩ W hr hf.1 hf.2
    generalize bsB (layT [] (numsP ⟨fk, fn, bk, bn, fl⟩)) = SB at *
    clear hT hT10 hr hS0 h0 h63 hok hf
    go_enter Tryd.func5, Tryd.ntmps5
    go_upto_region 3 with (go_at_call 9; (with_reducible refine (HD.out _).mono ?_); rintro e w2 ⟨rfl, hb2⟩; have HS2 := Lib.hid (as_step HS0.out hb2); clear hb2)
    have hSd := as_drew HS2.out
    go_region_held3 (fun W => (W.cell? ⟨w.heap.size, 0, none⟩ = some (.int .i64 fk) ∧ W.cell? ⟨w.heap.size, 1, none⟩ = some (.int .i64 fn) ∧ W.cell? ⟨w.heap.size, 2, none⟩ = some (.int .i64 bk) ∧ W.cell? ⟨w.heap.size, 3, none⟩ = some (.int .i64 bn) ∧ W.cell? ⟨w.heap.size, 4, none⟩ = some (.int .i64 fl)) ∧ w.heap.size < W.heap.size ∧ Below w.heap.size w W)
      (first | exact hSd | exact as_step hSd hb6 | exact as_step (by assumption) hb6)
      (first
        | (go_at_call 15; (with_reducible refine (HTX.out _ ?_).mono ?_); (first | exact as_below (by assumption) | exact as_below hSd); rintro e6 w6 ⟨rfl, hb6⟩)
        | (go_at_call 16; (with_reducible refine (HRX.out _).mono ?_); rintro e6 w6 ⟨rfl, hb6⟩)
        | (go_at_call 10; (with_reducible refine (HA.out _ ?_).mono ?_); (first | exact as_below (by assumption) | exact as_below hSd); rintro e6 w6 ⟨rfl, hb6⟩))
    all_goals
      have HBN := Lib.hid (as_below (by assumption))
      go_wp2
      go_ret
      exact ⟨rfl, HBN.out⟩

end Go.Proofs.YtlndmfbopopmmaaDoor
