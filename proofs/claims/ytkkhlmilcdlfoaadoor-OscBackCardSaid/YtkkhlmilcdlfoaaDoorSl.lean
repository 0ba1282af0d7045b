/- The law OscBack: what is written says the sign. Written by mksl.py. -/
import Derived.Test.YtkkhlmilcdlfoaaDoorSk
import Derived.Test.YtkkhlmilcdlfoaaDoorSj
namespace Go.Proofs.YtkkhlmilcdlfoaaDoor
open Go.RowKit

theorem tb_step {w W W' : World} {v0 v1 v2 v3 u0 u1 u2 u3 : Value} (h : (W.cell? ⟨w.heap.size, 0, none⟩ = some v0 ∧ W.cell? ⟨w.heap.size, 1, none⟩ = some v1 ∧ W.cell? ⟨w.heap.size, 2, none⟩ = some v2 ∧ W.cell? ⟨w.heap.size, 3, none⟩ = some v3 ∧ W.cell? ⟨w.heap.size + 1, 0, none⟩ = some u0 ∧ W.cell? ⟨w.heap.size + 1, 1, none⟩ = some u1 ∧ W.cell? ⟨w.heap.size + 1, 2, none⟩ = some u2 ∧ W.cell? ⟨w.heap.size + 1, 3, none⟩ = some u3) ∧ w.heap.size + 1 < W.heap.size ∧ Below w.heap.size w W) (hb : Below W.heap.size W W') :
    (W'.cell? ⟨w.heap.size, 0, none⟩ = some v0 ∧ W'.cell? ⟨w.heap.size, 1, none⟩ = some v1 ∧ W'.cell? ⟨w.heap.size, 2, none⟩ = some v2 ∧ W'.cell? ⟨w.heap.size, 3, none⟩ = some v3 ∧ W'.cell? ⟨w.heap.size + 1, 0, none⟩ = some u0 ∧ W'.cell? ⟨w.heap.size + 1, 1, none⟩ = some u1 ∧ W'.cell? ⟨w.heap.size + 1, 2, none⟩ = some u2 ∧ W'.cell? ⟨w.heap.size + 1, 3, none⟩ = some u3) ∧ w.heap.size + 1 < W'.heap.size ∧ Below w.heap.size w W' :=
  ⟨⟨(hb.cell (p := ⟨w.heap.size, 0, none⟩) (Nat.lt_of_succ_lt h.2.1)).trans h.1.1, (hb.cell (p := ⟨w.heap.size, 1, none⟩) (Nat.lt_of_succ_lt h.2.1)).trans h.1.2.1, (hb.cell (p := ⟨w.heap.size, 2, none⟩) (Nat.lt_of_succ_lt h.2.1)).trans h.1.2.2.1, (hb.cell (p := ⟨w.heap.size, 3, none⟩) (Nat.lt_of_succ_lt h.2.1)).trans h.1.2.2.2.1, (hb.cell (p := ⟨w.heap.size + 1, 0, none⟩) h.2.1).trans h.1.2.2.2.2.1, (hb.cell (p := ⟨w.heap.size + 1, 1, none⟩) h.2.1).trans h.1.2.2.2.2.2.1, (hb.cell (p := ⟨w.heap.size + 1, 2, none⟩) h.2.1).trans h.1.2.2.2.2.2.2.1, (hb.cell (p := ⟨w.heap.size + 1, 3, none⟩) h.2.1).trans h.1.2.2.2.2.2.2.2⟩, Nat.lt_of_lt_of_le h.2.1 hb.size, bel0 h.2.2 hb⟩
theorem tb_start (w : World) (v0 v1 v2 v3 u0 u1 u2 u3 : Value) : (((w.alloc (.cells #[v0, v1, v2, v3] 24)).alloc (.cells #[u0, u1, u2, u3] 24)).cell? ⟨w.heap.size, 0, none⟩ = some v0 ∧ ((w.alloc (.cells #[v0, v1, v2, v3] 24)).alloc (.cells #[u0, u1, u2, u3] 24)).cell? ⟨w.heap.size, 1, none⟩ = some v1 ∧ ((w.alloc (.cells #[v0, v1, v2, v3] 24)).alloc (.cells #[u0, u1, u2, u3] 24)).cell? ⟨w.heap.size, 2, none⟩ = some v2 ∧ ((w.alloc (.cells #[v0, v1, v2, v3] 24)).alloc (.cells #[u0, u1, u2, u3] 24)).cell? ⟨w.heap.size, 3, none⟩ = some v3 ∧ ((w.alloc (.cells #[v0, v1, v2, v3] 24)).alloc (.cells #[u0, u1, u2, u3] 24)).cell? ⟨w.heap.size + 1, 0, none⟩ = some u0 ∧ ((w.alloc (.cells #[v0, v1, v2, v3] 24)).alloc (.cells #[u0, u1, u2, u3] 24)).cell? ⟨w.heap.size + 1, 1, none⟩ = some u1 ∧ ((w.alloc (.cells #[v0, v1, v2, v3] 24)).alloc (.cells #[u0, u1, u2, u3] 24)).cell? ⟨w.heap.size + 1, 2, none⟩ = some u2 ∧ ((w.alloc (.cells #[v0, v1, v2, v3] 24)).alloc (.cells #[u0, u1, u2, u3] 24)).cell? ⟨w.heap.size + 1, 3, none⟩ = some u3) ∧ w.heap.size + 1 < ((w.alloc (.cells #[v0, v1, v2, v3] 24)).alloc (.cells #[u0, u1, u2, u3] 24)).heap.size ∧ Below w.heap.size w ((w.alloc (.cells #[v0, v1, v2, v3] 24)).alloc (.cells #[u0, u1, u2, u3] 24)) := by
  have h1 := heap_alloc_new w (.cells #[v0, v1, v2, v3] 24)
  have hs : (w.alloc (.cells #[v0, v1, v2, v3] 24)).heap.size = w.heap.size + 1 := by simp
  have hb := heap_alloc_new (w.alloc (.cells #[v0, v1, v2, v3] 24)) (.cells #[u0, u1, u2, u3] 24)
  rw [hs] at hb
  have ha : ((w.alloc (.cells #[v0, v1, v2, v3] 24)).alloc (.cells #[u0, u1, u2, u3] 24)).heap[w.heap.size]? = some (.cells #[v0, v1, v2, v3] 24 (0, 0)) := (Below.heap_alloc _ _ _ (by omega)).trans h1
  exact ⟨⟨cell_of_row _ _ 0 _ _ _ ha, cell_of_row _ _ 1 _ _ _ ha, cell_of_row _ _ 2 _ _ _ ha, cell_of_row _ _ 3 _ _ _ ha, cell_of_row _ _ 0 _ _ _ hb, cell_of_row _ _ 1 _ _ _ hb, cell_of_row _ _ 2 _ _ _ hb, cell_of_row _ _ 3 _ _ _ hb⟩, by simp, belA (belA (Below.refl _ _) _) _⟩
theorem tb_drew {w W : World} {v0 v1 v2 v3 u0 u1 u2 u3 : Value} (h : (W.cell? ⟨w.heap.size, 0, none⟩ = some v0 ∧ W.cell? ⟨w.heap.size, 1, none⟩ = some v1 ∧ W.cell? ⟨w.heap.size, 2, none⟩ = some v2 ∧ W.cell? ⟨w.heap.size, 3, none⟩ = some v3 ∧ W.cell? ⟨w.heap.size + 1, 0, none⟩ = some u0 ∧ W.cell? ⟨w.heap.size + 1, 1, none⟩ = some u1 ∧ W.cell? ⟨w.heap.size + 1, 2, none⟩ = some u2 ∧ W.cell? ⟨w.heap.size + 1, 3, none⟩ = some u3) ∧ w.heap.size + 1 < W.heap.size ∧ Below w.heap.size w W) :
    (W.drew.cell? ⟨w.heap.size, 0, none⟩ = some v0 ∧ W.drew.cell? ⟨w.heap.size, 1, none⟩ = some v1 ∧ W.drew.cell? ⟨w.heap.size, 2, none⟩ = some v2 ∧ W.drew.cell? ⟨w.heap.size, 3, none⟩ = some v3 ∧ W.drew.cell? ⟨w.heap.size + 1, 0, none⟩ = some u0 ∧ W.drew.cell? ⟨w.heap.size + 1, 1, none⟩ = some u1 ∧ W.drew.cell? ⟨w.heap.size + 1, 2, none⟩ = some u2 ∧ W.drew.cell? ⟨w.heap.size + 1, 3, none⟩ = some u3) ∧ w.heap.size + 1 < W.drew.heap.size ∧ Below w.heap.size w W.drew := tb_step h ((Below.refl W.heap.size W).drew)
theorem tb_below {w W : World} {v0 v1 v2 v3 u0 u1 u2 u3 : Value} (h : (W.cell? ⟨w.heap.size, 0, none⟩ = some v0 ∧ W.cell? ⟨w.heap.size, 1, none⟩ = some v1 ∧ W.cell? ⟨w.heap.size, 2, none⟩ = some v2 ∧ W.cell? ⟨w.heap.size, 3, none⟩ = some v3 ∧ W.cell? ⟨w.heap.size + 1, 0, none⟩ = some u0 ∧ W.cell? ⟨w.heap.size + 1, 1, none⟩ = some u1 ∧ W.cell? ⟨w.heap.size + 1, 2, none⟩ = some u2 ∧ W.cell? ⟨w.heap.size + 1, 3, none⟩ = some u3) ∧ w.heap.size + 1 < W.heap.size ∧ Below w.heap.size w W) : Below w.heap.size w W := h.2.2
set_option maxRecDepth 100000 in
set_option maxHeartbeats 4000000 in
theorem oscBack_1 (z : Int) (h : Bool) (l : List UInt8) (hl : l.length ≤ 256) (h0 : -999999999 ≤ z) (h1 : z ≤ 999999999) (w : World) (hO : OT w) (hT : TI w) : Calls Tryd.prog 5 #[.agg #[.int .i64 1, .int .i64 z, .bool h, .string (bsB l)]] w fun e w' => e = .returned (.bool true) ∧ Below w.heap.size w w' := by
  have HA := Lib.hid fun (W : World) (hW : Below w.heap.size w W) => awake_any W (hO.past hW)
  have hs : ((bsB l).size : Int) ≤ 256 := by rw [bsB_size]; omega
  have d1 : decide (z < -999999999) = false := decide_eq_false (by omega)
  have d2 : decide (999999999 < z) = false := decide_eq_false (by omega)
  have d3 : decide (256 < ((bsB l).size : Int)) = false := decide_eq_false (by omega)
  have HC : Hid (∀ W, Below w.heap.size w W → Calls Tryd.prog 12 #[.agg #[.int .i64 1, .int .i64 z, .bool h, .string (bsB l)]] W fun e w' => e = .returned (.string (bsB (writeP 1 z h l))) ∧ Below W.heap.size W w') := Lib.hid fun W hW => write_any 1 z h l (by omega) (by omega) (by omega) W (hT.past hW)
  have hwl : (writeP 1 z h l).length ≤ 1200 := by
    simp [writeP]
  have HR : Hid (∀ W, Below w.heap.size w W → Calls Tryd.prog 10 #[.string (bsB (writeP 1 z h l))] W fun e w' => e = .returned (.agg #[.int .i64 1, .int .i64 0, .bool false, .string (⟨#[]⟩ : ByteArray)]) ∧ Below W.heap.size W w') := Lib.hid fun W hW => by
    have hr := read_any (writeP 1 z h l) hwl W (hO.past hW)
    rwa [show readV (writeP 1 z h l) = sgV 1 0 false (⟨#[]⟩ : ByteArray) from back1] at hr
  have hSd := tb_drew (tb_start w (.int .i64 1) (.int .i64 z) (.bool h) (.string (bsB l)) (.int .i64 1) (.int .i64 0) (.bool false) (.string (⟨#[]⟩ : ByteArray)))
  clear h0 h1 hO hT hl hwl
  generalize bsB (writeP 1 z h l) = res at *
  generalize bsB l = t at *
  go_enter Tryd.func5, Tryd.ntmps5
  go_wp2_with fail
  go_region_held3 (fun W => (W.cell? ⟨w.heap.size, 0, none⟩ = some (.int .i64 1) ∧ W.cell? ⟨w.heap.size, 1, none⟩ = some (.int .i64 z) ∧ W.cell? ⟨w.heap.size, 2, none⟩ = some (.bool h) ∧ W.cell? ⟨w.heap.size, 3, none⟩ = some (.string t) ∧ W.cell? ⟨w.heap.size + 1, 0, none⟩ = some (.int .i64 1) ∧ W.cell? ⟨w.heap.size + 1, 1, none⟩ = some (.int .i64 0) ∧ W.cell? ⟨w.heap.size + 1, 2, none⟩ = some (.bool false) ∧ W.cell? ⟨w.heap.size + 1, 3, none⟩ = some (.string ⟨#[]⟩)) ∧ w.heap.size + 1 < W.heap.size ∧ Below w.heap.size w W)
    (first | exact hSd | exact tb_step hSd hb6 | exact tb_step (by assumption) hb6)
    (first
      | (go_at_call 12; (with_reducible refine (HC.out _ ?_).mono ?_); (first | exact tb_below (by assumption) | exact tb_below hSd); rintro e6 w6 ⟨rfl, hb6⟩)
      | (go_at_call 10; (with_reducible refine (HR.out _ ?_).mono ?_); (first | exact tb_below (by assumption) | exact tb_below hSd); rintro e6 w6 ⟨rfl, hb6⟩)
      | (go_at_call 9; (with_reducible refine (HA.out _ ?_).mono ?_); (first | exact tb_below (by assumption) | exact tb_below hSd); rintro e6 w6 ⟨rfl, hb6⟩))
  all_goals
    have HBN := Lib.hid (tb_below (by assumption))
    go_wp2
    go_ret
    exact ⟨rfl, HBN.out⟩
set_option maxRecDepth 100000 in
set_option maxHeartbeats 4000000 in
theorem oscBack_2 (z : Int) (h : Bool) (l : List UInt8) (hl : l.length ≤ 256) (h0 : -999999999 ≤ z) (h1 : z ≤ 999999999) (w : World) (hO : OT w) (hT : TI w) : Calls Tryd.prog 5 #[.agg #[.int .i64 2, .int .i64 z, .bool h, .string (bsB l)]] w fun e w' => e = .returned (.bool true) ∧ Below w.heap.size w w' := by
  have HA := Lib.hid fun (W : World) (hW : Below w.heap.size w W) => awake_any W (hO.past hW)
  have hs : ((bsB l).size : Int) ≤ 256 := by rw [bsB_size]; omega
  have d1 : decide (z < -999999999) = false := decide_eq_false (by omega)
  have d2 : decide (999999999 < z) = false := decide_eq_false (by omega)
  have d3 : decide (256 < ((bsB l).size : Int)) = false := decide_eq_false (by omega)
  have HC : Hid (∀ W, Below w.heap.size w W → Calls Tryd.prog 12 #[.agg #[.int .i64 2, .int .i64 z, .bool h, .string (bsB l)]] W fun e w' => e = .returned (.string (bsB (writeP 2 z h l))) ∧ Below W.heap.size W w') := Lib.hid fun W hW => write_any 2 z h l (by omega) (by omega) (by omega) W (hT.past hW)
  have hwl : (writeP 2 z h l).length ≤ 1200 := by
    simp [writeP]
  have HR : Hid (∀ W, Below w.heap.size w W → Calls Tryd.prog 10 #[.string (bsB (writeP 2 z h l))] W fun e w' => e = .returned (.agg #[.int .i64 2, .int .i64 0, .bool false, .string (⟨#[]⟩ : ByteArray)]) ∧ Below W.heap.size W w') := Lib.hid fun W hW => by
    have hr := read_any (writeP 2 z h l) hwl W (hO.past hW)
    rwa [show readV (writeP 2 z h l) = sgV 2 0 false (⟨#[]⟩ : ByteArray) from back2] at hr
  have hSd := tb_drew (tb_start w (.int .i64 2) (.int .i64 z) (.bool h) (.string (bsB l)) (.int .i64 2) (.int .i64 0) (.bool false) (.string (⟨#[]⟩ : ByteArray)))
  clear h0 h1 hO hT hl hwl
  generalize bsB (writeP 2 z h l) = res at *
  generalize bsB l = t at *
  go_enter Tryd.func5, Tryd.ntmps5
  go_wp2_with fail
  go_region_held3 (fun W => (W.cell? ⟨w.heap.size, 0, none⟩ = some (.int .i64 2) ∧ W.cell? ⟨w.heap.size, 1, none⟩ = some (.int .i64 z) ∧ W.cell? ⟨w.heap.size, 2, none⟩ = some (.bool h) ∧ W.cell? ⟨w.heap.size, 3, none⟩ = some (.string t) ∧ W.cell? ⟨w.heap.size + 1, 0, none⟩ = some (.int .i64 2) ∧ W.cell? ⟨w.heap.size + 1, 1, none⟩ = some (.int .i64 0) ∧ W.cell? ⟨w.heap.size + 1, 2, none⟩ = some (.bool false) ∧ W.cell? ⟨w.heap.size + 1, 3, none⟩ = some (.string ⟨#[]⟩)) ∧ w.heap.size + 1 < W.heap.size ∧ Below w.heap.size w W)
    (first | exact hSd | exact tb_step hSd hb6 | exact tb_step (by assumption) hb6)
    (first
      | (go_at_call 12; (with_reducible refine (HC.out _ ?_).mono ?_); (first | exact tb_below (by assumption) | exact tb_below hSd); rintro e6 w6 ⟨rfl, hb6⟩)
      | (go_at_call 10; (with_reducible refine (HR.out _ ?_).mono ?_); (first | exact tb_below (by assumption) | exact tb_below hSd); rintro e6 w6 ⟨rfl, hb6⟩)
      | (go_at_call 9; (with_reducible refine (HA.out _ ?_).mono ?_); (first | exact tb_below (by assumption) | exact tb_below hSd); rintro e6 w6 ⟨rfl, hb6⟩))
  all_goals
    have HBN := Lib.hid (tb_below (by assumption))
    go_wp2
    go_ret
    exact ⟨rfl, HBN.out⟩
set_option maxRecDepth 100000 in
set_option maxHeartbeats 4000000 in
theorem oscBack_3 (z : Int) (h : Bool) (l : List UInt8) (hl : l.length ≤ 256) (h0 : -999999999 ≤ z) (h1 : z ≤ 999999999) (w : World) (hO : OT w) (hT : TI w) : Calls Tryd.prog 5 #[.agg #[.int .i64 3, .int .i64 z, .bool h, .string (bsB l)]] w fun e w' => e = .returned (.bool true) ∧ Below w.heap.size w w' := by
  have HA := Lib.hid fun (W : World) (hW : Below w.heap.size w W) => awake_any W (hO.past hW)
  have hs : ((bsB l).size : Int) ≤ 256 := by rw [bsB_size]; omega
  have d1 : decide (z < -999999999) = false := decide_eq_false (by omega)
  have d2 : decide (999999999 < z) = false := decide_eq_false (by omega)
  have d3 : decide (256 < ((bsB l).size : Int)) = false := decide_eq_false (by omega)
  have HC : Hid (∀ W, Below w.heap.size w W → Calls Tryd.prog 12 #[.agg #[.int .i64 3, .int .i64 z, .bool h, .string (bsB l)]] W fun e w' => e = .returned (.string (bsB (writeP 3 z h l))) ∧ Below W.heap.size W w') := Lib.hid fun W hW => write_any 3 z h l (by omega) (by omega) (by omega) W (hT.past hW)
  have hwl : (writeP 3 z h l).length ≤ 1200 := by
    simp [writeP]
  have HR : Hid (∀ W, Below w.heap.size w W → Calls Tryd.prog 10 #[.string (bsB (writeP 3 z h l))] W fun e w' => e = .returned (.agg #[.int .i64 3, .int .i64 0, .bool false, .string (⟨#[]⟩ : ByteArray)]) ∧ Below W.heap.size W w') := Lib.hid fun W hW => by
    have hr := read_any (writeP 3 z h l) hwl W (hO.past hW)
    rwa [show readV (writeP 3 z h l) = sgV 3 0 false (⟨#[]⟩ : ByteArray) from back3] at hr
  have hSd := tb_drew (tb_start w (.int .i64 3) (.int .i64 z) (.bool h) (.string (bsB l)) (.int .i64 3) (.int .i64 0) (.bool false) (.string (⟨#[]⟩ : ByteArray)))
  clear h0 h1 hO hT hl hwl
  generalize bsB (writeP 3 z h l) = res at *
  generalize bsB l = t at *
  go_enter Tryd.func5, Tryd.ntmps5
  go_wp2_with fail
  go_region_held3 (fun W => (W.cell? ⟨w.heap.size, 0, none⟩ = some (.int .i64 3) ∧ W.cell? ⟨w.heap.size, 1, none⟩ = some (.int .i64 z) ∧ W.cell? ⟨w.heap.size, 2, none⟩ = some (.bool h) ∧ W.cell? ⟨w.heap.size, 3, none⟩ = some (.string t) ∧ W.cell? ⟨w.heap.size + 1, 0, none⟩ = some (.int .i64 3) ∧ W.cell? ⟨w.heap.size + 1, 1, none⟩ = some (.int .i64 0) ∧ W.cell? ⟨w.heap.size + 1, 2, none⟩ = some (.bool false) ∧ W.cell? ⟨w.heap.size + 1, 3, none⟩ = some (.string ⟨#[]⟩)) ∧ w.heap.size + 1 < W.heap.size ∧ Below w.heap.size w W)
    (first | exact hSd | exact tb_step hSd hb6 | exact tb_step (by assumption) hb6)
    (first
      | (go_at_call 12; (with_reducible refine (HC.out _ ?_).mono ?_); (first | exact tb_below (by assumption) | exact tb_below hSd); rintro e6 w6 ⟨rfl, hb6⟩)
      | (go_at_call 10; (with_reducible refine (HR.out _ ?_).mono ?_); (first | exact tb_below (by assumption) | exact tb_below hSd); rintro e6 w6 ⟨rfl, hb6⟩)
      | (go_at_call 9; (with_reducible refine (HA.out _ ?_).mono ?_); (first | exact tb_below (by assumption) | exact tb_below hSd); rintro e6 w6 ⟨rfl, hb6⟩))
  all_goals
    have HBN := Lib.hid (tb_below (by assumption))
    go_wp2
    go_ret
    exact ⟨rfl, HBN.out⟩
set_option maxRecDepth 100000 in
set_option maxHeartbeats 4000000 in
theorem oscBack_4n (z : Int) (l : List UInt8) (hl : l.length ≤ 256) (h0 : -999999999 ≤ z) (h1 : z ≤ 999999999) (w : World) (hO : OT w) (hT : TI w) : Calls Tryd.prog 5 #[.agg #[.int .i64 4, .int .i64 z, .bool false, .string (bsB l)]] w fun e w' => e = .returned (.bool true) ∧ Below w.heap.size w w' := by
  have HA := Lib.hid fun (W : World) (hW : Below w.heap.size w W) => awake_any W (hO.past hW)
  have hs : ((bsB l).size : Int) ≤ 256 := by rw [bsB_size]; omega
  have d1 : decide (z < -999999999) = false := decide_eq_false (by omega)
  have d2 : decide (999999999 < z) = false := decide_eq_false (by omega)
  have d3 : decide (256 < ((bsB l).size : Int)) = false := decide_eq_false (by omega)
  have HC : Hid (∀ W, Below w.heap.size w W → Calls Tryd.prog 12 #[.agg #[.int .i64 4, .int .i64 z, .bool false, .string (bsB l)]] W fun e w' => e = .returned (.string (bsB (writeP 4 z false l))) ∧ Below W.heap.size W w') := Lib.hid fun W hW => write_any 4 z false l (by omega) (by omega) (by omega) W (hT.past hW)
  have hwl : (writeP 4 z false l).length ≤ 1200 := by
    simp [writeP]
  have HR : Hid (∀ W, Below w.heap.size w W → Calls Tryd.prog 10 #[.string (bsB (writeP 4 z false l))] W fun e w' => e = .returned (.agg #[.int .i64 4, .int .i64 0, .bool false, .string (⟨#[]⟩ : ByteArray)]) ∧ Below W.heap.size W w') := Lib.hid fun W hW => by
    have hr := read_any (writeP 4 z false l) hwl W (hO.past hW)
    rwa [show readV (writeP 4 z false l) = sgV 4 0 false (⟨#[]⟩ : ByteArray) from back4n] at hr
  have hSd := tb_drew (tb_start w (.int .i64 4) (.int .i64 z) (.bool false) (.string (bsB l)) (.int .i64 4) (.int .i64 0) (.bool false) (.string (⟨#[]⟩ : ByteArray)))
  clear h0 h1 hO hT hl hwl
  generalize bsB (writeP 4 z false l) = res at *
  generalize bsB l = t at *
  go_enter Tryd.func5, Tryd.ntmps5
  go_wp2_with fail
  go_region_held3 (fun W => (W.cell? ⟨w.heap.size, 0, none⟩ = some (.int .i64 4) ∧ W.cell? ⟨w.heap.size, 1, none⟩ = some (.int .i64 z) ∧ W.cell? ⟨w.heap.size, 2, none⟩ = some (.bool false) ∧ W.cell? ⟨w.heap.size, 3, none⟩ = some (.string t) ∧ W.cell? ⟨w.heap.size + 1, 0, none⟩ = some (.int .i64 4) ∧ W.cell? ⟨w.heap.size + 1, 1, none⟩ = some (.int .i64 0) ∧ W.cell? ⟨w.heap.size + 1, 2, none⟩ = some (.bool false) ∧ W.cell? ⟨w.heap.size + 1, 3, none⟩ = some (.string ⟨#[]⟩)) ∧ w.heap.size + 1 < W.heap.size ∧ Below w.heap.size w W)
    (first | exact hSd | exact tb_step hSd hb6 | exact tb_step (by assumption) hb6)
    (first
      | (go_at_call 12; (with_reducible refine (HC.out _ ?_).mono ?_); (first | exact tb_below (by assumption) | exact tb_below hSd); rintro e6 w6 ⟨rfl, hb6⟩)
      | (go_at_call 10; (with_reducible refine (HR.out _ ?_).mono ?_); (first | exact tb_below (by assumption) | exact tb_below hSd); rintro e6 w6 ⟨rfl, hb6⟩)
      | (go_at_call 9; (with_reducible refine (HA.out _ ?_).mono ?_); (first | exact tb_below (by assumption) | exact tb_below hSd); rintro e6 w6 ⟨rfl, hb6⟩))
  all_goals
    have HBN := Lib.hid (tb_below (by assumption))
    go_wp2
    go_ret
    exact ⟨rfl, HBN.out⟩
set_option maxRecDepth 100000 in
set_option maxHeartbeats 4000000 in
theorem oscBack_4 (z : Int) (l : List UInt8) (hl : l.length ≤ 256) (h0 : -999999999 ≤ z) (h1 : z ≤ 999999999) (w : World) (hO : OT w) (hT : TI w) : Calls Tryd.prog 5 #[.agg #[.int .i64 4, .int .i64 z, .bool true, .string (bsB l)]] w fun e w' => e = .returned (.bool true) ∧ Below w.heap.size w w' := by
  have HA := Lib.hid fun (W : World) (hW : Below w.heap.size w W) => awake_any W (hO.past hW)
  have hs : ((bsB l).size : Int) ≤ 256 := by rw [bsB_size]; omega
  have d1 : decide (z < -999999999) = false := decide_eq_false (by omega)
  have d2 : decide (999999999 < z) = false := decide_eq_false (by omega)
  have d3 : decide (256 < ((bsB l).size : Int)) = false := decide_eq_false (by omega)
  have HC : Hid (∀ W, Below w.heap.size w W → Calls Tryd.prog 12 #[.agg #[.int .i64 4, .int .i64 z, .bool true, .string (bsB l)]] W fun e w' => e = .returned (.string (bsB (writeP 4 z true l))) ∧ Below W.heap.size W w') := Lib.hid fun W hW => write_any 4 z true l (by omega) (by omega) (by omega) W (hT.past hW)
  have hwl : (writeP 4 z true l).length ≤ 1200 := by
    have := Lib.itoa_length_le z (by omega) (by omega)
    show ([49, 51, 51, 59, 68, 59] ++ Lib.itoa z).length ≤ 1200
    rw [List.length_append]; simp only [List.length_cons, List.length_nil]; omega
  have HR : Hid (∀ W, Below w.heap.size w W → Calls Tryd.prog 10 #[.string (bsB (writeP 4 z true l))] W fun e w' => e = .returned (.agg #[.int .i64 4, .int .i64 z, .bool true, .string (⟨#[]⟩ : ByteArray)]) ∧ Below W.heap.size W w') := Lib.hid fun W hW => by
    have hr := read_any (writeP 4 z true l) hwl W (hO.past hW)
    rwa [show readV (writeP 4 z true l) = sgV 4 z true (⟨#[]⟩ : ByteArray) from back4 z h0 h1] at hr
  have hSd := tb_drew (tb_start w (.int .i64 4) (.int .i64 z) (.bool true) (.string (bsB l)) (.int .i64 4) (.int .i64 z) (.bool true) (.string (⟨#[]⟩ : ByteArray)))
  clear h0 h1 hO hT hl hwl
  generalize bsB (writeP 4 z true l) = res at *
  generalize bsB l = t at *
  go_enter Tryd.func5, Tryd.ntmps5
  go_wp2_with fail
  go_region_held3 (fun W => (W.cell? ⟨w.heap.size, 0, none⟩ = some (.int .i64 4) ∧ W.cell? ⟨w.heap.size, 1, none⟩ = some (.int .i64 z) ∧ W.cell? ⟨w.heap.size, 2, none⟩ = some (.bool true) ∧ W.cell? ⟨w.heap.size, 3, none⟩ = some (.string t) ∧ W.cell? ⟨w.heap.size + 1, 0, none⟩ = some (.int .i64 4) ∧ W.cell? ⟨w.heap.size + 1, 1, none⟩ = some (.int .i64 z) ∧ W.cell? ⟨w.heap.size + 1, 2, none⟩ = some (.bool true) ∧ W.cell? ⟨w.heap.size + 1, 3, none⟩ = some (.string ⟨#[]⟩)) ∧ w.heap.size + 1 < W.heap.size ∧ Below w.heap.size w W)
    (first | exact hSd | exact tb_step hSd hb6 | exact tb_step (by assumption) hb6)
    (first
      | (go_at_call 12; (with_reducible refine (HC.out _ ?_).mono ?_); (first | exact tb_below (by assumption) | exact tb_below hSd); rintro e6 w6 ⟨rfl, hb6⟩)
      | (go_at_call 10; (with_reducible refine (HR.out _ ?_).mono ?_); (first | exact tb_below (by assumption) | exact tb_below hSd); rintro e6 w6 ⟨rfl, hb6⟩)
      | (go_at_call 9; (with_reducible refine (HA.out _ ?_).mono ?_); (first | exact tb_below (by assumption) | exact tb_below hSd); rintro e6 w6 ⟨rfl, hb6⟩))
  all_goals
    have HBN := Lib.hid (tb_below (by assumption))
    go_wp2
    go_ret
    exact ⟨rfl, HBN.out⟩
set_option maxRecDepth 100000 in
set_option maxHeartbeats 4000000 in
theorem oscBack_5 (z : Int) (h : Bool) (l : List UInt8) (hl : l.length ≤ 256) (h0 : -999999999 ≤ z) (h1 : z ≤ 999999999) (w : World) (hO : OT w) (hT : TI w) : Calls Tryd.prog 5 #[.agg #[.int .i64 5, .int .i64 z, .bool h, .string (bsB l)]] w fun e w' => e = .returned (.bool true) ∧ Below w.heap.size w w' := by
  have HA := Lib.hid fun (W : World) (hW : Below w.heap.size w W) => awake_any W (hO.past hW)
  have hs : ((bsB l).size : Int) ≤ 256 := by rw [bsB_size]; omega
  have d1 : decide (z < -999999999) = false := decide_eq_false (by omega)
  have d2 : decide (999999999 < z) = false := decide_eq_false (by omega)
  have d3 : decide (256 < ((bsB l).size : Int)) = false := decide_eq_false (by omega)
  have HC : Hid (∀ W, Below w.heap.size w W → Calls Tryd.prog 12 #[.agg #[.int .i64 5, .int .i64 z, .bool h, .string (bsB l)]] W fun e w' => e = .returned (.string (bsB (writeP 5 z h l))) ∧ Below W.heap.size W w') := Lib.hid fun W hW => write_any 5 z h l (by omega) (by omega) (by omega) W (hT.past hW)
  have hwl : (writeP 5 z h l).length ≤ 1200 := by
    have := escL_len l
    show ([54, 51, 51, 59, 69, 59] ++ escL l).length ≤ 1200
    rw [List.length_append]; simp only [List.length_cons, List.length_nil]; omega
  have HR : Hid (∀ W, Below w.heap.size w W → Calls Tryd.prog 10 #[.string (bsB (writeP 5 z h l))] W fun e w' => e = .returned (.agg #[.int .i64 5, .int .i64 0, .bool false, .string (bsB l)]) ∧ Below W.heap.size W w') := Lib.hid fun W hW => by
    have hr := read_any (writeP 5 z h l) hwl W (hO.past hW)
    rwa [show readV (writeP 5 z h l) = sgV 5 0 false (bsB l) from back5 l hl] at hr
  have hSd := tb_drew (tb_start w (.int .i64 5) (.int .i64 z) (.bool h) (.string (bsB l)) (.int .i64 5) (.int .i64 0) (.bool false) (.string (bsB l)))
  clear h0 h1 hO hT hl hwl
  generalize bsB (writeP 5 z h l) = res at *
  generalize bsB l = t at *
  go_enter Tryd.func5, Tryd.ntmps5
  go_wp2_with fail
  go_region_held3 (fun W => (W.cell? ⟨w.heap.size, 0, none⟩ = some (.int .i64 5) ∧ W.cell? ⟨w.heap.size, 1, none⟩ = some (.int .i64 z) ∧ W.cell? ⟨w.heap.size, 2, none⟩ = some (.bool h) ∧ W.cell? ⟨w.heap.size, 3, none⟩ = some (.string t) ∧ W.cell? ⟨w.heap.size + 1, 0, none⟩ = some (.int .i64 5) ∧ W.cell? ⟨w.heap.size + 1, 1, none⟩ = some (.int .i64 0) ∧ W.cell? ⟨w.heap.size + 1, 2, none⟩ = some (.bool false) ∧ W.cell? ⟨w.heap.size + 1, 3, none⟩ = some (.string t)) ∧ w.heap.size + 1 < W.heap.size ∧ Below w.heap.size w W)
    (first | exact hSd | exact tb_step hSd hb6 | exact tb_step (by assumption) hb6)
    (first
      | (go_at_call 12; (with_reducible refine (HC.out _ ?_).mono ?_); (first | exact tb_below (by assumption) | exact tb_below hSd); rintro e6 w6 ⟨rfl, hb6⟩)
      | (go_at_call 10; (with_reducible refine (HR.out _ ?_).mono ?_); (first | exact tb_below (by assumption) | exact tb_below hSd); rintro e6 w6 ⟨rfl, hb6⟩)
      | (go_at_call 9; (with_reducible refine (HA.out _ ?_).mono ?_); (first | exact tb_below (by assumption) | exact tb_below hSd); rintro e6 w6 ⟨rfl, hb6⟩))
  all_goals
    have HBN := Lib.hid (tb_below (by assumption))
    go_wp2
    go_ret
    exact ⟨rfl, HBN.out⟩
set_option maxRecDepth 100000 in
set_option maxHeartbeats 4000000 in
theorem oscBack_6 (z : Int) (h : Bool) (l : List UInt8) (hl : l.length ≤ 256) (h0 : -999999999 ≤ z) (h1 : z ≤ 999999999) (w : World) (hO : OT w) (hT : TI w) : Calls Tryd.prog 5 #[.agg #[.int .i64 6, .int .i64 z, .bool h, .string (bsB l)]] w fun e w' => e = .returned (.bool true) ∧ Below w.heap.size w w' := by
  have HA := Lib.hid fun (W : World) (hW : Below w.heap.size w W) => awake_any W (hO.past hW)
  have hs : ((bsB l).size : Int) ≤ 256 := by rw [bsB_size]; omega
  have d1 : decide (z < -999999999) = false := decide_eq_false (by omega)
  have d2 : decide (999999999 < z) = false := decide_eq_false (by omega)
  have d3 : decide (256 < ((bsB l).size : Int)) = false := decide_eq_false (by omega)
  have HC : Hid (∀ W, Below w.heap.size w W → Calls Tryd.prog 12 #[.agg #[.int .i64 6, .int .i64 z, .bool h, .string (bsB l)]] W fun e w' => e = .returned (.string (bsB (writeP 6 z h l))) ∧ Below W.heap.size W w') := Lib.hid fun W hW => write_any 6 z h l (by omega) (by omega) (by omega) W (hT.past hW)
  have hwl : (writeP 6 z h l).length ≤ 1200 := by
    have := escL_len l
    show ([54, 51, 51, 59, 80, 59, 67, 119, 100, 61] ++ escL l).length ≤ 1200
    rw [List.length_append]; simp only [List.length_cons, List.length_nil]; omega
  have HR : Hid (∀ W, Below w.heap.size w W → Calls Tryd.prog 10 #[.string (bsB (writeP 6 z h l))] W fun e w' => e = .returned (.agg #[.int .i64 6, .int .i64 0, .bool false, .string (bsB l)]) ∧ Below W.heap.size W w') := Lib.hid fun W hW => by
    have hr := read_any (writeP 6 z h l) hwl W (hO.past hW)
    rwa [show readV (writeP 6 z h l) = sgV 6 0 false (bsB l) from back6 l hl] at hr
  have hSd := tb_drew (tb_start w (.int .i64 6) (.int .i64 z) (.bool h) (.string (bsB l)) (.int .i64 6) (.int .i64 0) (.bool false) (.string (bsB l)))
  clear h0 h1 hO hT hl hwl
  generalize bsB (writeP 6 z h l) = res at *
  generalize bsB l = t at *
  go_enter Tryd.func5, Tryd.ntmps5
  go_wp2_with fail
  go_region_held3 (fun W => (W.cell? ⟨w.heap.size, 0, none⟩ = some (.int .i64 6) ∧ W.cell? ⟨w.heap.size, 1, none⟩ = some (.int .i64 z) ∧ W.cell? ⟨w.heap.size, 2, none⟩ = some (.bool h) ∧ W.cell? ⟨w.heap.size, 3, none⟩ = some (.string t) ∧ W.cell? ⟨w.heap.size + 1, 0, none⟩ = some (.int .i64 6) ∧ W.cell? ⟨w.heap.size + 1, 1, none⟩ = some (.int .i64 0) ∧ W.cell? ⟨w.heap.size + 1, 2, none⟩ = some (.bool false) ∧ W.cell? ⟨w.heap.size + 1, 3, none⟩ = some (.string t)) ∧ w.heap.size + 1 < W.heap.size ∧ Below w.heap.size w W)
    (first | exact hSd | exact tb_step hSd hb6 | exact tb_step (by assumption) hb6)
    (first
      | (go_at_call 12; (with_reducible refine (HC.out _ ?_).mono ?_); (first | exact tb_below (by assumption) | exact tb_below hSd); rintro e6 w6 ⟨rfl, hb6⟩)
      | (go_at_call 10; (with_reducible refine (HR.out _ ?_).mono ?_); (first | exact tb_below (by assumption) | exact tb_below hSd); rintro e6 w6 ⟨rfl, hb6⟩)
      | (go_at_call 9; (with_reducible refine (HA.out _ ?_).mono ?_); (first | exact tb_below (by assumption) | exact tb_below hSd); rintro e6 w6 ⟨rfl, hb6⟩))
  all_goals
    have HBN := Lib.hid (tb_below (by assumption))
    go_wp2
    go_ret
    exact ⟨rfl, HBN.out⟩
set_option maxRecDepth 100000 in
set_option maxHeartbeats 4000000 in
theorem oscBack_7 (z : Int) (h : Bool) (l : List UInt8) (hl : l.length ≤ 256) (h0 : -999999999 ≤ z) (h1 : z ≤ 999999999) (w : World) (hO : OT w) (hT : TI w) : Calls Tryd.prog 5 #[.agg #[.int .i64 7, .int .i64 z, .bool h, .string (bsB l)]] w fun e w' => e = .returned (.bool true) ∧ Below w.heap.size w w' := by
  have HA := Lib.hid fun (W : World) (hW : Below w.heap.size w W) => awake_any W (hO.past hW)
  have hs : ((bsB l).size : Int) ≤ 256 := by rw [bsB_size]; omega
  have d1 : decide (z < -999999999) = false := decide_eq_false (by omega)
  have d2 : decide (999999999 < z) = false := decide_eq_false (by omega)
  have d3 : decide (256 < ((bsB l).size : Int)) = false := decide_eq_false (by omega)
  have HC : Hid (∀ W, Below w.heap.size w W → Calls Tryd.prog 12 #[.agg #[.int .i64 7, .int .i64 z, .bool h, .string (bsB l)]] W fun e w' => e = .returned (.string (bsB (writeP 7 z h l))) ∧ Below W.heap.size W w') := Lib.hid fun W hW => write_any 7 z h l (by omega) (by omega) (by omega) W (hT.past hW)
  have hwl : (writeP 7 z h l).length ≤ 1200 := by
    simp [writeP]
  have HR : Hid (∀ W, Below w.heap.size w W → Calls Tryd.prog 10 #[.string (bsB (writeP 7 z h l))] W fun e w' => e = .returned (.agg #[.int .i64 7, .int .i64 0, .bool false, .string (⟨#[]⟩ : ByteArray)]) ∧ Below W.heap.size W w') := Lib.hid fun W hW => by
    have hr := read_any (writeP 7 z h l) hwl W (hO.past hW)
    rwa [show readV (writeP 7 z h l) = sgV 7 0 false (⟨#[]⟩ : ByteArray) from back7] at hr
  have hSd := tb_drew (tb_start w (.int .i64 7) (.int .i64 z) (.bool h) (.string (bsB l)) (.int .i64 7) (.int .i64 0) (.bool false) (.string (⟨#[]⟩ : ByteArray)))
  clear h0 h1 hO hT hl hwl
  generalize bsB (writeP 7 z h l) = res at *
  generalize bsB l = t at *
  go_enter Tryd.func5, Tryd.ntmps5
  go_wp2_with fail
  go_region_held3 (fun W => (W.cell? ⟨w.heap.size, 0, none⟩ = some (.int .i64 7) ∧ W.cell? ⟨w.heap.size, 1, none⟩ = some (.int .i64 z) ∧ W.cell? ⟨w.heap.size, 2, none⟩ = some (.bool h) ∧ W.cell? ⟨w.heap.size, 3, none⟩ = some (.string t) ∧ W.cell? ⟨w.heap.size + 1, 0, none⟩ = some (.int .i64 7) ∧ W.cell? ⟨w.heap.size + 1, 1, none⟩ = some (.int .i64 0) ∧ W.cell? ⟨w.heap.size + 1, 2, none⟩ = some (.bool false) ∧ W.cell? ⟨w.heap.size + 1, 3, none⟩ = some (.string ⟨#[]⟩)) ∧ w.heap.size + 1 < W.heap.size ∧ Below w.heap.size w W)
    (first | exact hSd | exact tb_step hSd hb6 | exact tb_step (by assumption) hb6)
    (first
      | (go_at_call 12; (with_reducible refine (HC.out _ ?_).mono ?_); (first | exact tb_below (by assumption) | exact tb_below hSd); rintro e6 w6 ⟨rfl, hb6⟩)
      | (go_at_call 10; (with_reducible refine (HR.out _ ?_).mono ?_); (first | exact tb_below (by assumption) | exact tb_below hSd); rintro e6 w6 ⟨rfl, hb6⟩)
      | (go_at_call 9; (with_reducible refine (HA.out _ ?_).mono ?_); (first | exact tb_below (by assumption) | exact tb_below hSd); rintro e6 w6 ⟨rfl, hb6⟩))
  all_goals
    have HBN := Lib.hid (tb_below (by assumption))
    go_wp2
    go_ret
    exact ⟨rfl, HBN.out⟩
set_option maxRecDepth 100000 in
set_option maxHeartbeats 4000000 in
theorem oscBack_8 (z : Int) (h : Bool) (l : List UInt8) (hl : l.length ≤ 256) (h0 : -999999999 ≤ z) (h1 : z ≤ 999999999) (w : World) (hO : OT w) (hT : TI w) : Calls Tryd.prog 5 #[.agg #[.int .i64 8, .int .i64 z, .bool h, .string (bsB l)]] w fun e w' => e = .returned (.bool true) ∧ Below w.heap.size w w' := by
  have HA := Lib.hid fun (W : World) (hW : Below w.heap.size w W) => awake_any W (hO.past hW)
  have hs : ((bsB l).size : Int) ≤ 256 := by rw [bsB_size]; omega
  have d1 : decide (z < -999999999) = false := decide_eq_false (by omega)
  have d2 : decide (999999999 < z) = false := decide_eq_false (by omega)
  have d3 : decide (256 < ((bsB l).size : Int)) = false := decide_eq_false (by omega)
  have HC : Hid (∀ W, Below w.heap.size w W → Calls Tryd.prog 12 #[.agg #[.int .i64 8, .int .i64 z, .bool h, .string (bsB l)]] W fun e w' => e = .returned (.string (bsB (writeP 8 z h l))) ∧ Below W.heap.size W w') := Lib.hid fun W hW => write_any 8 z h l (by omega) (by omega) (by omega) W (hT.past hW)
  have hwl : (writeP 8 z h l).length ≤ 1200 := by
    show ([50, 59] ++ l).length ≤ 1200
    rw [List.length_append]; simp only [List.length_cons, List.length_nil]; omega
  have HR : Hid (∀ W, Below w.heap.size w W → Calls Tryd.prog 10 #[.string (bsB (writeP 8 z h l))] W fun e w' => e = .returned (.agg #[.int .i64 8, .int .i64 0, .bool false, .string (bsB l)]) ∧ Below W.heap.size W w') := Lib.hid fun W hW => by
    have hr := read_any (writeP 8 z h l) hwl W (hO.past hW)
    rwa [show readV (writeP 8 z h l) = sgV 8 0 false (bsB l) from back8 l hl] at hr
  have hSd := tb_drew (tb_start w (.int .i64 8) (.int .i64 z) (.bool h) (.string (bsB l)) (.int .i64 8) (.int .i64 0) (.bool false) (.string (bsB l)))
  clear h0 h1 hO hT hl hwl
  generalize bsB (writeP 8 z h l) = res at *
  generalize bsB l = t at *
  go_enter Tryd.func5, Tryd.ntmps5
  go_wp2_with fail
  go_region_held3 (fun W => (W.cell? ⟨w.heap.size, 0, none⟩ = some (.int .i64 8) ∧ W.cell? ⟨w.heap.size, 1, none⟩ = some (.int .i64 z) ∧ W.cell? ⟨w.heap.size, 2, none⟩ = some (.bool h) ∧ W.cell? ⟨w.heap.size, 3, none⟩ = some (.string t) ∧ W.cell? ⟨w.heap.size + 1, 0, none⟩ = some (.int .i64 8) ∧ W.cell? ⟨w.heap.size + 1, 1, none⟩ = some (.int .i64 0) ∧ W.cell? ⟨w.heap.size + 1, 2, none⟩ = some (.bool false) ∧ W.cell? ⟨w.heap.size + 1, 3, none⟩ = some (.string t)) ∧ w.heap.size + 1 < W.heap.size ∧ Below w.heap.size w W)
    (first | exact hSd | exact tb_step hSd hb6 | exact tb_step (by assumption) hb6)
    (first
      | (go_at_call 12; (with_reducible refine (HC.out _ ?_).mono ?_); (first | exact tb_below (by assumption) | exact tb_below hSd); rintro e6 w6 ⟨rfl, hb6⟩)
      | (go_at_call 10; (with_reducible refine (HR.out _ ?_).mono ?_); (first | exact tb_below (by assumption) | exact tb_below hSd); rintro e6 w6 ⟨rfl, hb6⟩)
      | (go_at_call 9; (with_reducible refine (HA.out _ ?_).mono ?_); (first | exact tb_below (by assumption) | exact tb_below hSd); rintro e6 w6 ⟨rfl, hb6⟩))
  all_goals
    have HBN := Lib.hid (tb_below (by assumption))
    go_wp2
    go_ret
    exact ⟨rfl, HBN.out⟩
set_option maxRecDepth 100000 in
set_option maxHeartbeats 4000000 in
theorem oscBack_oa (k z : Int) (h : Bool) (l : List UInt8) (c1 : 256 < l.length) (w : World) (hO : OT w) : Calls Tryd.prog 5 #[.agg #[.int .i64 k, .int .i64 z, .bool h, .string (bsB l)]] w fun e w' => e = .returned (.bool true) ∧ Below w.heap.size w w' := by
  have HA := Lib.hid fun (W : World) (hW : Below w.heap.size w W) => awake_any W (hO.past hW)
  have HS0 := Lib.hid (sg_start w (.int .i64 k) (.int .i64 z) (.bool h) (.string (bsB l)))
  have hs : (256 : Int) < (bsB l).size := by rw [bsB_size]; omega
  have d3 : decide (256 < ((bsB l).size : Int)) = true := decide_eq_true (by omega)
  clear hO c1
  generalize bsB l = t at *
  go_enter Tryd.func5, Tryd.ntmps5
  go_wp2_with (go_at_call 9; (with_reducible refine (HA.out _ (sg_below HS0.out)).mono ?_); rintro e wx ⟨rfl, hb⟩; have HBc := Lib.hid (sg_below (sg_step HS0.out hb)); clear hb)
  go_ret
  exact ⟨rfl, HBc.out⟩
set_option maxRecDepth 100000 in
set_option maxHeartbeats 4000000 in
theorem oscBack_ob (k z : Int) (h : Bool) (l : List UInt8) (c1 : l.length ≤ 256) (c2 : z < -999999999) (w : World) (hO : OT w) : Calls Tryd.prog 5 #[.agg #[.int .i64 k, .int .i64 z, .bool h, .string (bsB l)]] w fun e w' => e = .returned (.bool true) ∧ Below w.heap.size w w' := by
  have HA := Lib.hid fun (W : World) (hW : Below w.heap.size w W) => awake_any W (hO.past hW)
  have HS0 := Lib.hid (sg_start w (.int .i64 k) (.int .i64 z) (.bool h) (.string (bsB l)))
  have hs : ((bsB l).size : Int) ≤ 256 := by rw [bsB_size]; omega
  have d3 : decide (256 < ((bsB l).size : Int)) = false := decide_eq_false (by omega)
  have d1 : decide (z < -999999999) = true := decide_eq_true c2
  clear hO c1
  generalize bsB l = t at *
  go_enter Tryd.func5, Tryd.ntmps5
  go_wp2_with (go_at_call 9; (with_reducible refine (HA.out _ (sg_below HS0.out)).mono ?_); rintro e wx ⟨rfl, hb⟩; have HBc := Lib.hid (sg_below (sg_step HS0.out hb)); clear hb)
  go_ret
  exact ⟨rfl, HBc.out⟩
set_option maxRecDepth 100000 in
set_option maxHeartbeats 4000000 in
theorem oscBack_oc (k z : Int) (h : Bool) (l : List UInt8) (c1 : l.length ≤ 256) (c3 : 999999999 < z) (w : World) (hO : OT w) : Calls Tryd.prog 5 #[.agg #[.int .i64 k, .int .i64 z, .bool h, .string (bsB l)]] w fun e w' => e = .returned (.bool true) ∧ Below w.heap.size w w' := by
  have HA := Lib.hid fun (W : World) (hW : Below w.heap.size w W) => awake_any W (hO.past hW)
  have HS0 := Lib.hid (sg_start w (.int .i64 k) (.int .i64 z) (.bool h) (.string (bsB l)))
  have hs : ((bsB l).size : Int) ≤ 256 := by rw [bsB_size]; omega
  have d3 : decide (256 < ((bsB l).size : Int)) = false := decide_eq_false (by omega)
  have d1 : decide (z < -999999999) = false := decide_eq_false (by omega)
  have d2 : decide (999999999 < z) = true := decide_eq_true c3
  clear hO c1
  generalize bsB l = t at *
  go_enter Tryd.func5, Tryd.ntmps5
  go_wp2_with (go_at_call 9; (with_reducible refine (HA.out _ (sg_below HS0.out)).mono ?_); rintro e wx ⟨rfl, hb⟩; have HBc := Lib.hid (sg_below (sg_step HS0.out hb)); clear hb)
  go_ret
  exact ⟨rfl, HBc.out⟩
set_option maxRecDepth 100000 in
set_option maxHeartbeats 4000000 in
theorem oscBack_od (k z : Int) (h : Bool) (l : List UInt8) (c1 : l.length ≤ 256) (c2 : -999999999 ≤ z) (c3 : z ≤ 999999999) (c4 : k < 1) (w : World) (hO : OT w) : Calls Tryd.prog 5 #[.agg #[.int .i64 k, .int .i64 z, .bool h, .string (bsB l)]] w fun e w' => e = .returned (.bool true) ∧ Below w.heap.size w w' := by
  have HA := Lib.hid fun (W : World) (hW : Below w.heap.size w W) => awake_any W (hO.past hW)
  have HS0 := Lib.hid (sg_start w (.int .i64 k) (.int .i64 z) (.bool h) (.string (bsB l)))
  have hs : ((bsB l).size : Int) ≤ 256 := by rw [bsB_size]; omega
  have d3 : decide (256 < ((bsB l).size : Int)) = false := decide_eq_false (by omega)
  have d1 : decide (z < -999999999) = false := decide_eq_false (by omega)
  have d2 : decide (999999999 < z) = false := decide_eq_false (by omega)
  have d4 : decide (k < 1) = true := decide_eq_true c4
  clear hO c1
  generalize bsB l = t at *
  go_enter Tryd.func5, Tryd.ntmps5
  go_wp2_with (go_at_call 9; (with_reducible refine (HA.out _ (sg_below HS0.out)).mono ?_); rintro e wx ⟨rfl, hb⟩; have HBc := Lib.hid (sg_below (sg_step HS0.out hb)); clear hb)
  go_ret
  exact ⟨rfl, HBc.out⟩
set_option maxRecDepth 100000 in
set_option maxHeartbeats 4000000 in
theorem oscBack_oe (k z : Int) (h : Bool) (l : List UInt8) (c1 : l.length ≤ 256) (c2 : -999999999 ≤ z) (c3 : z ≤ 999999999) (c5 : 8 < k) (w : World) (hO : OT w) : Calls Tryd.prog 5 #[.agg #[.int .i64 k, .int .i64 z, .bool h, .string (bsB l)]] w fun e w' => e = .returned (.bool true) ∧ Below w.heap.size w w' := by
  have HA := Lib.hid fun (W : World) (hW : Below w.heap.size w W) => awake_any W (hO.past hW)
  have HS0 := Lib.hid (sg_start w (.int .i64 k) (.int .i64 z) (.bool h) (.string (bsB l)))
  have hs : ((bsB l).size : Int) ≤ 256 := by rw [bsB_size]; omega
  have d3 : decide (256 < ((bsB l).size : Int)) = false := decide_eq_false (by omega)
  have d1 : decide (z < -999999999) = false := decide_eq_false (by omega)
  have d2 : decide (999999999 < z) = false := decide_eq_false (by omega)
  have d4 : decide (k < 1) = false := decide_eq_false (by omega)
  have d5 : decide (8 < k) = true := decide_eq_true c5
  clear hO c1
  generalize bsB l = t at *
  go_enter Tryd.func5, Tryd.ntmps5
  go_wp2_with (go_at_call 9; (with_reducible refine (HA.out _ (sg_below HS0.out)).mono ?_); rintro e wx ⟨rfl, hb⟩; have HBc := Lib.hid (sg_below (sg_step HS0.out hb)); clear hb)
  go_ret
  exact ⟨rfl, HBc.out⟩
theorem oscBack_law (k z : Int) (h : Bool) (l : List UInt8) (w : World) (hO : OT w) (hT : TI w) : Calls Tryd.prog 5 #[.agg #[.int .i64 k, .int .i64 z, .bool h, .string (bsB l)]] w fun e w' => e = .returned (.bool true) ∧ Below w.heap.size w w' := by
  by_cases c1 : 256 < l.length
  · exact oscBack_oa k z h l c1 w hO
  by_cases c2 : z < -999999999
  · exact oscBack_ob k z h l (by omega) c2 w hO
  by_cases c3 : 999999999 < z
  · exact oscBack_oc k z h l (by omega) c3 w hO
  by_cases c4 : k < 1
  · exact oscBack_od k z h l (by omega) (by omega) (by omega) c4 w hO
  by_cases c5 : 8 < k
  · exact oscBack_oe k z h l (by omega) (by omega) (by omega) c5 w hO
  have hk : k = 1 ∨ k = 2 ∨ k = 3 ∨ k = 4 ∨ k = 5 ∨ k = 6 ∨ k = 7 ∨ k = 8 := by omega
  rcases hk with rfl | rfl | rfl | rfl | rfl | rfl | rfl | rfl
  · exact oscBack_1 z h l (by omega) (by omega) (by omega) w hO hT
  · exact oscBack_2 z h l (by omega) (by omega) (by omega) w hO hT
  · exact oscBack_3 z h l (by omega) (by omega) (by omega) w hO hT
  · cases h with
    | true => exact oscBack_4 z l (by omega) (by omega) (by omega) w hO hT
    | false => exact oscBack_4n z l (by omega) (by omega) (by omega) w hO hT
  · exact oscBack_5 z h l (by omega) (by omega) (by omega) w hO hT
  · exact oscBack_6 z h l (by omega) (by omega) (by omega) w hO hT
  · exact oscBack_7 z h l (by omega) (by omega) (by omega) w hO hT
  · exact oscBack_8 z h l (by omega) (by omega) (by omega) w hO hT
end Go.Proofs.YtkkhlmilcdlfoaaDoor
