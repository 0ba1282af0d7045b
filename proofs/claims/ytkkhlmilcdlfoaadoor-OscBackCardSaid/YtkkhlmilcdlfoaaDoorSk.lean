/- The law OscWrites. -/
import Derived.Test.YtkkhlmilcdlfoaaDoorSi
import Derived.Test.YtkkhlmilcdlfoaaDoorRl
import Derived.Deep.RegionHeld3
namespace Go.Proofs.YtkkhlmilcdlfoaaDoor
open Go.RowKit

theorem sg_step {w W W' : World} {v0 v1 v2 v3 : Value} (h : (W.cell? ⟨w.heap.size, 0, none⟩ = some v0 ∧ W.cell? ⟨w.heap.size, 1, none⟩ = some v1 ∧ W.cell? ⟨w.heap.size, 2, none⟩ = some v2 ∧ W.cell? ⟨w.heap.size, 3, none⟩ = some v3) ∧ w.heap.size < W.heap.size ∧ Below w.heap.size w W) (hb : Below W.heap.size W W') :
    (W'.cell? ⟨w.heap.size, 0, none⟩ = some v0 ∧ W'.cell? ⟨w.heap.size, 1, none⟩ = some v1 ∧ W'.cell? ⟨w.heap.size, 2, none⟩ = some v2 ∧ W'.cell? ⟨w.heap.size, 3, none⟩ = some v3) ∧ w.heap.size < W'.heap.size ∧ Below w.heap.size w W' :=
  ⟨⟨(hb.cell (p := ⟨w.heap.size, 0, none⟩) h.2.1).trans h.1.1, (hb.cell (p := ⟨w.heap.size, 1, none⟩) h.2.1).trans h.1.2.1, (hb.cell (p := ⟨w.heap.size, 2, none⟩) h.2.1).trans h.1.2.2.1, (hb.cell (p := ⟨w.heap.size, 3, none⟩) h.2.1).trans h.1.2.2.2⟩, Nat.lt_of_lt_of_le h.2.1 hb.size, bel0 h.2.2 hb⟩
theorem sg_start (w : World) (v0 v1 v2 v3 : Value) : ((w.alloc (.cells #[v0, v1, v2, v3] 24)).cell? ⟨w.heap.size, 0, none⟩ = some v0 ∧ (w.alloc (.cells #[v0, v1, v2, v3] 24)).cell? ⟨w.heap.size, 1, none⟩ = some v1 ∧ (w.alloc (.cells #[v0, v1, v2, v3] 24)).cell? ⟨w.heap.size, 2, none⟩ = some v2 ∧ (w.alloc (.cells #[v0, v1, v2, v3] 24)).cell? ⟨w.heap.size, 3, none⟩ = some v3) ∧ w.heap.size < (w.alloc (.cells #[v0, v1, v2, v3] 24)).heap.size ∧ Below w.heap.size w (w.alloc (.cells #[v0, v1, v2, v3] 24)) := by
  have hb := heap_alloc_new w (.cells #[v0, v1, v2, v3] 24)
  exact ⟨⟨cell_of_row _ _ 0 _ _ _ hb, cell_of_row _ _ 1 _ _ _ hb, cell_of_row _ _ 2 _ _ _ hb, cell_of_row _ _ 3 _ _ _ hb⟩, by simp, belA (Below.refl _ _) _⟩
theorem sg_drew {w W : World} {v0 v1 v2 v3 : Value} (h : (W.cell? ⟨w.heap.size, 0, none⟩ = some v0 ∧ W.cell? ⟨w.heap.size, 1, none⟩ = some v1 ∧ W.cell? ⟨w.heap.size, 2, none⟩ = some v2 ∧ W.cell? ⟨w.heap.size, 3, none⟩ = some v3) ∧ w.heap.size < W.heap.size ∧ Below w.heap.size w W) :
    (W.drew.cell? ⟨w.heap.size, 0, none⟩ = some v0 ∧ W.drew.cell? ⟨w.heap.size, 1, none⟩ = some v1 ∧ W.drew.cell? ⟨w.heap.size, 2, none⟩ = some v2 ∧ W.drew.cell? ⟨w.heap.size, 3, none⟩ = some v3) ∧ w.heap.size < W.drew.heap.size ∧ Below w.heap.size w W.drew := sg_step h ((Below.refl W.heap.size W).drew)
theorem sg_below {w W : World} {v0 v1 v2 v3 : Value} (h : (W.cell? ⟨w.heap.size, 0, none⟩ = some v0 ∧ W.cell? ⟨w.heap.size, 1, none⟩ = some v1 ∧ W.cell? ⟨w.heap.size, 2, none⟩ = some v2 ∧ W.cell? ⟨w.heap.size, 3, none⟩ = some v3) ∧ w.heap.size < W.heap.size ∧ Below w.heap.size w W) : Below w.heap.size w W := h.2.2
/-- All that the writing walks read in memory. -/
theorem TI.past {w w' : World} (h : TI w) (hb : Below w.heap.size w w') : TI w' := h.below hb
theorem write_any (k z : Int) (h : Bool) (l : List UInt8) (hl : l.length ≤ 10000) (h0 : -9223372036854775808 ≤ z) (h1 : z ≤ 9223372036854775807) (w : World) (hT : TI w) : Calls Tryd.prog 12 #[.agg #[.int .i64 k, .int .i64 z, .bool h, .string (bsB l)]] w fun e w' => e = .returned (.string (bsB (writeP k z h l))) ∧ Below w.heap.size w w' := by
  unfold writeP
  by_cases k1 : k = 1
  · subst k1; rw [if_pos rfl]; exact write_1 z h l w
  rw [if_neg k1]
  by_cases k2 : k = 2
  · subst k2; rw [if_pos rfl]; exact write_2 z h l w
  rw [if_neg k2]
  by_cases k3 : k = 3
  · subst k3; rw [if_pos rfl]; exact write_3 z h l w
  rw [if_neg k3]
  by_cases k4 : k = 4
  · subst k4; rw [if_pos rfl]
    cases h with
    | true => rw [if_pos rfl]; exact write_4 z l h0 h1 w hT
    | false => rw [if_neg (by decide)]; exact write_4n z l w
  rw [if_neg k4]
  by_cases k5 : k = 5
  · subst k5; rw [if_pos rfl]; exact write_5 z h l hl w
  rw [if_neg k5]
  by_cases k6 : k = 6
  · subst k6; rw [if_pos rfl]; exact write_6 z h l hl w
  rw [if_neg k6]
  by_cases k7 : k = 7
  · subst k7; rw [if_pos rfl]; exact write_7 z h l w
  rw [if_neg k7]
  by_cases k8 : k = 8
  · subst k8; rw [if_pos rfl]; exact write_8 z h l hl w
  rw [if_neg k8]
  exact write_o k z h l (by omega) w
theorem refW_any (k z : Int) (h : Bool) (l : List UInt8) (hl : l.length ≤ 10000) (h0 : -9223372036854775808 ≤ z) (h1 : z ≤ 9223372036854775807) (w : World) : Calls Tryd.prog 13 #[.agg #[.int .i64 k, .int .i64 z, .bool h, .string (bsB l)]] w fun e w' => e = .returned (.string (bsB (writeP k z h l))) ∧ Below w.heap.size w w' := by
  unfold writeP
  by_cases k1 : k = 1
  · subst k1; rw [if_pos rfl]; exact refW_1 z h l w
  rw [if_neg k1]
  by_cases k2 : k = 2
  · subst k2; rw [if_pos rfl]; exact refW_2 z h l w
  rw [if_neg k2]
  by_cases k3 : k = 3
  · subst k3; rw [if_pos rfl]; exact refW_3 z h l w
  rw [if_neg k3]
  by_cases k4 : k = 4
  · subst k4; rw [if_pos rfl]
    cases h with
    | true =>
      rw [if_pos rfl]
      by_cases hz : 0 ≤ z
      · obtain ⟨m, rfl⟩ := Int.eq_ofNat_of_zero_le hz
        exact refW_4p m l h1 w
      · obtain ⟨m, rfl⟩ : ∃ m : Nat, z = -(m : Int) := ⟨z.natAbs, by omega⟩
        by_cases h10 : 10 ≤ m
        · exact refW_4m m l h10 (by omega) w
        · exact refW_4l m l (by omega) (by omega) w
    | false => rw [if_neg (by decide)]; exact refW_4n z l w
  rw [if_neg k4]
  by_cases k5 : k = 5
  · subst k5; rw [if_pos rfl]; exact refW_5 z h l hl w
  rw [if_neg k5]
  by_cases k6 : k = 6
  · subst k6; rw [if_pos rfl]; exact refW_6 z h l hl w
  rw [if_neg k6]
  by_cases k7 : k = 7
  · subst k7; rw [if_pos rfl]; exact refW_7 z h l w
  rw [if_neg k7]
  by_cases k8 : k = 8
  · subst k8; rw [if_pos rfl]; exact refW_8 z h l hl w
  rw [if_neg k8]
  exact refW_o k z h l (by omega) w
set_option maxRecDepth 100000 in
set_option maxHeartbeats 4000000 in
theorem oscWrites_law (k z : Int) (h : Bool) (l : List UInt8) (hL : l.length ≤ 9223372036854775807) (h0 : -9223372036854775808 ≤ z) (h1 : z ≤ 9223372036854775807) (w : World) (hO : OT w) (hT : TI w) : Calls Tryd.prog 4 #[.agg #[.int .i64 k, .int .i64 z, .bool h, .string (bsB l)]] w fun e w' => e = .returned (.bool true) ∧ Below w.heap.size w w' := by
  have HA := Lib.hid fun (W : World) (hW : Below w.heap.size w W) => awake_any W (hO.past hW)
  have hS0 := sg_start w (.int .i64 k) (.int .i64 z) (.bool h) (.string (bsB l))
  have HS0 := Lib.hid hS0
  by_cases h3 : 700 < l.length
  · have hs : (700 : Int) < (bsB l).size := by rw [bsB_size]; omega
    clear h3 hS0 h0 h1 hO hT
    generalize bsB l = t at *
    go_enter Tryd.func4, Tryd.ntmps4
    go_wp2_with (go_at_call 9; (with_reducible refine (HA.out _ (sg_below HS0.out)).mono ?_); rintro e wx ⟨rfl, hb⟩; have HBc := Lib.hid (sg_below (sg_step HS0.out hb)); clear hb)
    go_ret
    exact ⟨rfl, HBc.out⟩
  have hs : ((bsB l).size : Int) ≤ 700 := by rw [bsB_size]; omega
  have HC : Hid (∀ W, Below w.heap.size w W → Calls Tryd.prog 12 #[.agg #[.int .i64 k, .int .i64 z, .bool h, .string (bsB l)]] W fun e w' => e = .returned (.string (bsB (writeP k z h l))) ∧ Below W.heap.size W w') := Lib.hid fun W hW => write_any k z h l (by omega) h0 h1 W (hT.past hW)
  have HR : Hid (∀ W, Calls Tryd.prog 13 #[.agg #[.int .i64 k, .int .i64 z, .bool h, .string (bsB l)]] W fun e w' => e = .returned (.string (bsB (writeP k z h l))) ∧ Below W.heap.size W w') := Lib.hid fun W => refW_any k z h l (by omega) h0 h1 W
  have hSd := sg_drew hS0
  clear h3 h0 h1 hO hT hS0
  generalize bsB (writeP k z h l) = res at *
  generalize bsB l = t at *
  go_enter Tryd.func4, Tryd.ntmps4
  go_wp2_with fail
  go_region_held3 (fun W => (W.cell? ⟨w.heap.size, 0, none⟩ = some (.int .i64 k) ∧ W.cell? ⟨w.heap.size, 1, none⟩ = some (.int .i64 z) ∧ W.cell? ⟨w.heap.size, 2, none⟩ = some (.bool h) ∧ W.cell? ⟨w.heap.size, 3, none⟩ = some (.string t)) ∧ w.heap.size < W.heap.size ∧ Below w.heap.size w W)
    (first | exact hSd | exact sg_step hSd hb6 | exact sg_step (by assumption) hb6)
    (first
      | (go_at_call 12; (with_reducible refine (HC.out _ ?_).mono ?_); (first | exact sg_below (by assumption) | exact sg_below hSd); rintro e6 w6 ⟨rfl, hb6⟩)
      | (go_at_call 13; (with_reducible refine (HR.out _).mono ?_); rintro e6 w6 ⟨rfl, hb6⟩)
      | (go_at_call 9; (with_reducible refine (HA.out _ ?_).mono ?_); (first | exact sg_below (by assumption) | exact sg_below hSd); rintro e6 w6 ⟨rfl, hb6⟩))
  all_goals
    have HBN := Lib.hid (sg_below (by assumption))
    go_wp2
    go_ret
    exact ⟨rfl, HBN.out⟩
end Go.Proofs.YtkkhlmilcdlfoaaDoor
