/- The law ReplySettings. -/
import Derived.Test.YtlolbfbkoimjkaaDoorJo
import Derived.Deep.RegionHeld3
import Derived.Deep.DeepCutAuto
namespace Go.Proofs.YtlolbfbkoimjkaaDoor
open Go.RowKit

set_option maxRecDepth 100000 in
theorem seven_step {w W W' : World} {v0 v1 v2 v3 v4 u0 u1 : Value} (h : (W.cell? ⟨w.heap.size, 0, none⟩ = some v0 ∧ W.cell? ⟨w.heap.size, 1, none⟩ = some v1 ∧ W.cell? ⟨w.heap.size, 2, none⟩ = some v2 ∧ W.cell? ⟨w.heap.size, 3, none⟩ = some v3 ∧ W.cell? ⟨w.heap.size, 4, none⟩ = some v4 ∧ W.cell? ⟨w.heap.size + 1, 0, none⟩ = some u0 ∧ W.cell? ⟨w.heap.size + 1, 1, none⟩ = some u1) ∧ w.heap.size + 1 < W.heap.size ∧ Below w.heap.size w W) (hb : Below W.heap.size W W') :
    (W'.cell? ⟨w.heap.size, 0, none⟩ = some v0 ∧ W'.cell? ⟨w.heap.size, 1, none⟩ = some v1 ∧ W'.cell? ⟨w.heap.size, 2, none⟩ = some v2 ∧ W'.cell? ⟨w.heap.size, 3, none⟩ = some v3 ∧ W'.cell? ⟨w.heap.size, 4, none⟩ = some v4 ∧ W'.cell? ⟨w.heap.size + 1, 0, none⟩ = some u0 ∧ W'.cell? ⟨w.heap.size + 1, 1, none⟩ = some u1) ∧ w.heap.size + 1 < W'.heap.size ∧ Below w.heap.size w W' := by
  obtain ⟨⟨e0, e1, e2, e3, e4, f0, f1⟩, hl, hB⟩ := h
  have hs := hb.size
  have hl0 : w.heap.size < W.heap.size := by omega
  exact ⟨⟨(hb.cell (p := ⟨w.heap.size, 0, none⟩) hl0).trans e0, (hb.cell (p := ⟨w.heap.size, 1, none⟩) hl0).trans e1, (hb.cell (p := ⟨w.heap.size, 2, none⟩) hl0).trans e2, (hb.cell (p := ⟨w.heap.size, 3, none⟩) hl0).trans e3, (hb.cell (p := ⟨w.heap.size, 4, none⟩) hl0).trans e4, (hb.cell (p := ⟨w.heap.size + 1, 0, none⟩) hl).trans f0, (hb.cell (p := ⟨w.heap.size + 1, 1, none⟩) hl).trans f1⟩, by omega, bel0 hB hb⟩
set_option maxRecDepth 100000 in
theorem seven_below {w W : World} {v0 v1 v2 v3 v4 u0 u1 : Value} (h : (W.cell? ⟨w.heap.size, 0, none⟩ = some v0 ∧ W.cell? ⟨w.heap.size, 1, none⟩ = some v1 ∧ W.cell? ⟨w.heap.size, 2, none⟩ = some v2 ∧ W.cell? ⟨w.heap.size, 3, none⟩ = some v3 ∧ W.cell? ⟨w.heap.size, 4, none⟩ = some v4 ∧ W.cell? ⟨w.heap.size + 1, 0, none⟩ = some u0 ∧ W.cell? ⟨w.heap.size + 1, 1, none⟩ = some u1) ∧ w.heap.size + 1 < W.heap.size ∧ Below w.heap.size w W) : Below w.heap.size w W := h.2.2
set_option maxRecDepth 100000 in
theorem seven_start (w : World) (v0 v1 v2 v3 v4 u0 u1 : Value) : let W := (w.alloc (.cells #[v0, v1, v2, v3, v4] 29)).alloc (.cells #[u0, u1] 30)
    (W.cell? ⟨w.heap.size, 0, none⟩ = some v0 ∧ W.cell? ⟨w.heap.size, 1, none⟩ = some v1 ∧ W.cell? ⟨w.heap.size, 2, none⟩ = some v2 ∧ W.cell? ⟨w.heap.size, 3, none⟩ = some v3 ∧ W.cell? ⟨w.heap.size, 4, none⟩ = some v4 ∧ W.cell? ⟨w.heap.size + 1, 0, none⟩ = some u0 ∧ W.cell? ⟨w.heap.size + 1, 1, none⟩ = some u1) ∧ w.heap.size + 1 < W.heap.size ∧ Below w.heap.size w W := by
  have y0 := heap_alloc2_old w (.cells #[v0, v1, v2, v3, v4] 29) (.cells #[u0, u1] 30)
  have y1 := heap_alloc2_new w (.cells #[v0, v1, v2, v3, v4] 29) (.cells #[u0, u1] 30)
  exact ⟨⟨cell_of_row _ _ 0 _ _ _ y0, cell_of_row _ _ 1 _ _ _ y0, cell_of_row _ _ 2 _ _ _ y0, cell_of_row _ _ 3 _ _ _ y0, cell_of_row _ _ 4 _ _ _ y0, cell_of_row _ _ 0 _ _ _ y1, cell_of_row _ _ 1 _ _ _ y1⟩, by simp, belA (belA (Below.refl _ _) _) _⟩
set_option maxRecDepth 100000 in
/-- What both say of a name. -/
theorem both_set (S : ByteArray) (fk fn bk bn fl t b : Int) (h0 : -9223372036854775808 ≤ fl) (h63 : fl ≤ 9223372036854775807) (w : World) (hT : TT w) (hT10 : T10 w.heap.size w) :
    ∃ X : ByteArray, (∀ W, Below w.heap.size w W → Calls Tryd.prog 13 #[.string S, .agg #[.int .i64 fk, .int .i64 fn, .int .i64 bk, .int .i64 bn, .int .i64 fl], .int .i64 t, .int .i64 b] W fun e w' => e = .returned (.string X) ∧ Below W.heap.size W w') ∧
      (∀ W, Calls Tryd.prog 14 #[.string S, .agg #[.int .i64 fk, .int .i64 fn, .int .i64 bk, .int .i64 bn, .int .i64 fl], .int .i64 t, .int .i64 b] W fun e w' => e = .returned (.string X) ∧ Below W.heap.size W w') := by
  have one : ∀ x : UInt8, S.toList = [x] → S = ⟨#[x]⟩ := fun x h => by
    rw [Lib.toList_data] at h
    apply ByteArray.ext
    apply Array.toList_inj.1
    rw [h]
  by_cases h1 : S.toList = [109]
  · rw [one 109 h1]
    exact ⟨_, fun W hb => set_m fk fn bk bn fl t b W (hT.below hb) (hT10.on hb hb.size), fun W => rset_m fk fn bk bn fl t b h0 h63 W⟩
  · by_cases h2 : S.toList = [114]
    · rw [one 114 h2]
      exact ⟨_, fun W hb => set_r fk fn bk bn fl t b W (hT10.on hb hb.size), fun W => rset_r fk fn bk bn fl t b W⟩
    · exact ⟨_, fun W _ => set_o S fk fn bk bn fl t b (beq_false_of_ne h1) (beq_false_of_ne h2) W, fun W => rset_o S fk fn bk bn fl t b (beq_false_of_ne h1) (beq_false_of_ne h2) W⟩
set_option maxRecDepth 100000 in
set_option maxHeartbeats 16000000 in
theorem replySettings_law (S : ByteArray) (fk fn bk bn fl t b : Int) (h0 : -9223372036854775808 ≤ fl) (h63 : fl ≤ 9223372036854775807) (w : World) (hT : TT w) (hT10 : T10 w.heap.size w) :
    Calls Tryd.prog 4 #[.string S, .agg #[.int .i64 fk, .int .i64 fn, .int .i64 bk, .int .i64 bn, .int .i64 fl], .agg #[.int .i64 t, .int .i64 b]] w fun e w' => e = .returned (.bool true) ∧ Below w.heap.size w w' := by
  obtain ⟨X1, p1, r1⟩ := both_set S fk fn bk bn fl t b h0 h63 w hT hT10
  obtain ⟨X2, p2, r2⟩ := both_set ⟨#[109]⟩ fk fn bk bn fl t b h0 h63 w hT hT10
  have P1 := Lib.hid p1
  have R1 := Lib.hid r1
  have P2 := Lib.hid p2
  have R2 := Lib.hid r2
  have HA : Hid (∀ W, Below w.heap.size w W → Calls Tryd.prog 12 #[] W fun e w' => e = .returned (.bool true) ∧ Below W.heap.size W w') := Lib.hid fun W hb => awake_any W (hT10.on hb hb.size)
  have hS := seven_start w (.int .i64 fk) (.int .i64 fn) (.int .i64 bk) (.int .i64 bn) (.int .i64 fl) (.int .i64 t) (.int .i64 b)
  have hSd := seven_step hS (Below.refl _ _).drew
  have hx1 : (X1.toList == X1.toList) = true := beq_self_eq_true _
  have hx2 : (X2.toList == X2.toList) = true := beq_self_eq_true _
  clear p1 r1 p2 r2 hT hT10 h0 h63 hS
  go_enter Tryd.func4, Tryd.ntmps4
  go_wp2
  go_region_held3 (fun W => (W.cell? ⟨w.heap.size, 0, none⟩ = some (.int .i64 fk) ∧ W.cell? ⟨w.heap.size, 1, none⟩ = some (.int .i64 fn) ∧ W.cell? ⟨w.heap.size, 2, none⟩ = some (.int .i64 bk) ∧ W.cell? ⟨w.heap.size, 3, none⟩ = some (.int .i64 bn) ∧ W.cell? ⟨w.heap.size, 4, none⟩ = some (.int .i64 fl) ∧ W.cell? ⟨w.heap.size + 1, 0, none⟩ = some (.int .i64 t) ∧ W.cell? ⟨w.heap.size + 1, 1, none⟩ = some (.int .i64 b)) ∧ w.heap.size + 1 < W.heap.size ∧ Below w.heap.size w W)
    (first | exact hSd | exact seven_step hSd hbx | exact seven_step (by assumption) hbx | assumption)
    (first
      | (go_at_call 13; (with_reducible refine (P1.out _ ?_).mono ?_); (first | exact hSd.2.2 | exact seven_below (by assumption)); rintro e8 w8 ⟨rfl, hbx⟩)
      | (go_at_call 13; (with_reducible refine (P2.out _ ?_).mono ?_); (first | exact hSd.2.2 | exact seven_below (by assumption)); rintro e8 w8 ⟨rfl, hbx⟩)
      | (go_at_call 14; (with_reducible refine (R1.out _).mono ?_); rintro e8 w8 ⟨rfl, hbx⟩)
      | (go_at_call 14; (with_reducible refine (R2.out _).mono ?_); rintro e8 w8 ⟨rfl, hbx⟩)
      | (go_at_call 12; (with_reducible refine (HA.out _ ?_).mono ?_); (first | exact hSd.2.2 | exact seven_below (by assumption)); rintro e8 w8 ⟨rfl, hbx⟩))
  all_goals
    have HBN := Lib.hid (seven_below (by assumption))
    go_wp2
    go_ret
    exact ⟨rfl, HBN.out⟩
end Go.Proofs.YtlolbfbkoimjkaaDoor
