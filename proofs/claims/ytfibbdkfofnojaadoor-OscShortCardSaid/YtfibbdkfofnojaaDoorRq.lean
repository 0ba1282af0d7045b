/- The law OscShort. -/
import Derived.Test.YtfibbdkfofnojaaDoorRl
namespace Go.Proofs.YtfibbdkfofnojaaDoor
open Go.RowKit

theorem field3 (a b : Int) (c : Bool) (s : ByteArray) (w : World) : (Instr.field 24 (.agg #[.int .i64 a, .int .i64 b, .bool c, .string s]) 3).run Tryd.prog w = .ok (.string s) w := by
  simp [go_sem, Instr.field, asAgg]
theorem field0 (a b : Int) (c : Bool) (s : ByteArray) (w : World) : (Instr.field 24 (.agg #[.int .i64 a, .int .i64 b, .bool c, .string s]) 0).run Tryd.prog w = .ok (.int .i64 a) w := by
  simp [go_sem, Instr.field, asAgg]
/-- A sign whose text is no longer than may be. -/
def isSh (v : Value) : Prop := ∃ k z h t, v = .agg #[.int .i64 k, .int .i64 z, .bool h, .string (bsB t)] ∧ t.length ≤ 256
theorem isSh_sg (k z : Int) (h : Bool) (t : List UInt8) : isSh (sgV k z h (bsB (cut256 t))) := ⟨_, _, _, _, rfl, by unfold cut256; rw [List.length_take]; omega⟩
theorem isSh_no (k z : Int) (h : Bool) : isSh (sgV k z h ⟨#[]⟩) := ⟨_, _, _, [], rfl, by decide⟩
theorem isSh_ite {c : Prop} [Decidable c] {a b : Value} (ha : isSh a) (hb : isSh b) : isSh (if c then a else b) := by
  split
  · exact ha
  · exact hb
theorem told_sh (l w : List UInt8) : isSh (toldV l w) := isSh_ite (isSh_sg _ _ _ _) (isSh_ite (isSh_sg _ _ _ _) (isSh_no _ _ _))
theorem shell_sh (l f : List UInt8) : isSh (shellV l f) := isSh_ite (isSh_no _ _ _) (isSh_ite (isSh_no _ _ _) (isSh_ite (isSh_no _ _ _) (isSh_ite (isSh_no _ _ _) (isSh_ite (told_sh _ _) (isSh_no _ _ _)))))
theorem address_sh (l : List UInt8) : isSh (addressV l) := by
  unfold addressV
  split
  · exact isSh_sg _ _ _ _
  · exact isSh_no _ _ _
theorem command_sh (l : List UInt8) : isSh (commandV l) := isSh_ite (isSh_no _ _ _) (isSh_ite (isSh_sg _ _ _ _) (isSh_no _ _ _))
theorem title_sh (l : List UInt8) : isSh (titleV l) := isSh_ite (isSh_sg _ _ _ _) (isSh_no _ _ _)
theorem read_sh (l : List UInt8) : isSh (readV l) := isSh_ite (shell_sh _ _) (isSh_ite (address_sh _) (isSh_ite (command_sh _) (isSh_ite (title_sh _) (isSh_no _ _ _))))
/-- A mark, and what stands behind it. -/
def markL (r : Nat) : List UInt8 := [49, 51, 51, 59, UInt8.ofNat (65 + r)]
theorem mark_none : ∀ r, r < 3 → readV (markL r) = sgV (1 + r) 0 false ⟨#[]⟩
  | 0, _ => rfl
  | 1, _ => rfl
  | 2, _ => rfl
theorem mark_more (more : List UInt8) : ∀ r, r < 3 → readV (markL r ++ 59 :: more) = sgV (1 + r) 0 false ⟨#[]⟩
  | 0, _ => rfl
  | 1, _ => rfl
  | 2, _ => rfl
-- LAW
theorem mark_bs (r : Nat) : ∀ _ : r < 3, (⟨#[49, 51, 51, 59]⟩ : ByteArray) ++ (⟨#[65, 66, 67]⟩ : ByteArray).extract r (r + 1) = bsB (markL r) := fun h => by
  rcases (by omega : r = 0 ∨ r = 1 ∨ r = 2) with rfl | rfl | rfl <;> decide
theorem mark_bs2 (r : Nat) (h : r < 3) (more : List UInt8) : (⟨#[49, 51, 51, 59]⟩ : ByteArray) ++ (⟨#[65, 66, 67]⟩ : ByteArray).extract r (r + 1) ++ ⟨#[59]⟩ ++ bsB more = bsB (markL r ++ 59 :: more) := by
  rw [mark_bs r h, show (⟨#[59]⟩ : ByteArray) = bsB [59] from rfl, bsB_app, bsB_app, List.append_assoc]
  rfl
set_option maxRecDepth 100000 in
set_option maxHeartbeats 4000000 in
theorem oscShort_law (l more : List UInt8) (hL : l.length ≤ 9223372036854775807) (hM : more.length ≤ 9223372036854775807) (k : Nat) (hk : k < 256) (w : World) (hO : OT w) : Calls Tryd.prog 8 #[.string (bsB l), .string (bsB more), .int .u8 k] w fun e w' => e = .returned (.bool true) ∧ Below w.heap.size w w' := by
  have HA := Lib.hid fun (W : World) (hW : Below w.heap.size w W) => awake_any W (hO.past hW)
  have HBc : Hid (Below w.heap.size w w) := Lib.hid (Below.refl _ _)
  by_cases h3 : 700 < l.length
  · have hs : (700 : Int) < (bsB l).size := by rw [bsB_size]; omega
    have hs2 : 0 ≤ ((bsB more).size : Int) := by omega
    clear h3
    generalize bsB l = t at *
    generalize bsB more = t2 at *
    go_enter Tryd.func8, Tryd.ntmps8
    go_wp2_with (first
      | (go_at_call 9; (with_reducible refine (HA.out _ HBc.out).mono ?_); rintro e wx ⟨rfl, hb⟩; have HBc := Lib.hid (bel0 HBc.out hb); clear hb))
    go_ret
    exact ⟨rfl, HBc.out⟩
  by_cases h4 : 200 < more.length
  · have hs : ((bsB l).size : Int) ≤ 700 := by rw [bsB_size]; omega
    have hs2 : (200 : Int) < (bsB more).size := by rw [bsB_size]; omega
    clear h3 h4
    generalize bsB l = t at *
    generalize bsB more = t2 at *
    go_enter Tryd.func8, Tryd.ntmps8
    go_wp2_with (first
      | (go_at_call 9; (with_reducible refine (HA.out _ HBc.out).mono ?_); rintro e wx ⟨rfl, hb⟩; have HBc := Lib.hid (bel0 HBc.out hb); clear hb))
    go_ret
    exact ⟨rfl, HBc.out⟩
  have hs : ((bsB l).size : Int) ≤ 700 := by rw [bsB_size]; omega
  have hs2 : ((bsB more).size : Int) ≤ 200 := by rw [bsB_size]; omega
  obtain ⟨kk, zz, hh, tt, hv, htt⟩ := read_sh l
  have HR1 : Hid (∀ W, Below w.heap.size w W → Calls Tryd.prog 10 #[.string (bsB l)] W fun e w' => e = .returned (.agg #[.int .i64 kk, .int .i64 zz, .bool hh, .string (bsB tt)]) ∧ Below W.heap.size W w') := Lib.hid fun W hW => by
    have h := read_any l (by omega) W (hO.past hW)
    rwa [hv] at h
  have j3 := field3 kk zz hh (bsB tt)
  have ht : ((bsB tt).size : Int) ≤ 256 := by rw [bsB_size]; omega
  obtain ⟨q, r, hr, rfl⟩ : ∃ q r, r < 3 ∧ k = 3 * q + r := ⟨k / 3, k % 3, Nat.mod_lt _ (by decide), by omega⟩
  clear h3 hv htt
  generalize bsB tt = tu at *
  generalize bsB l = t at *
  rcases (by omega : r = 0 ∨ r = 1 ∨ r = 2) with rfl | rfl | rfl
  · have HR2 : Hid (∀ W, Below w.heap.size w W → Calls Tryd.prog 10 #[.string ((⟨#[49, 51, 51, 59]⟩ ++ (⟨#[65, 66, 67]⟩ : ByteArray).extract 0 1) ++ ⟨#[59]⟩ ++ bsB more)] W fun e w' => e = .returned (.agg #[.int .i64 1, .int .i64 0, .bool false, .string ⟨#[]⟩]) ∧ Below W.heap.size W w') := Lib.hid fun W hW => by
      have h := read_any (markL 0 ++ 59 :: more) (by simp [markL]; omega) W (hO.past hW)
      rw [mark_more more 0 (by decide)] at h
      rw [mark_bs2 0 (by decide)]
      exact h
    have HR3 : Hid (∀ W, Below w.heap.size w W → Calls Tryd.prog 10 #[.string (⟨#[49, 51, 51, 59]⟩ ++ (⟨#[65, 66, 67]⟩ : ByteArray).extract 0 1)] W fun e w' => e = .returned (.agg #[.int .i64 1, .int .i64 0, .bool false, .string ⟨#[]⟩]) ∧ Below W.heap.size W w') := Lib.hid fun W hW => by
      have h := read_any (markL 0) (by simp [markL]) W (hO.past hW)
      rw [mark_none 0 (by decide)] at h
      rw [mark_bs 0 (by decide)]
      exact h
    have j0 := field0 1 0 false ⟨#[]⟩
    clear h4
    generalize bsB more = t2 at *
    go_enter Tryd.func8, Tryd.ntmps8
    go_wp2_with (first
      | (go_at_call 10; (with_reducible refine (HR1.out _ HBc.out).mono ?_); rintro e wx ⟨rfl, hb⟩; have HBc := Lib.hid (bel0 HBc.out hb); clear hb HR1)
      | (go_at_call 10; (with_reducible refine (HR2.out _ HBc.out).mono ?_); rintro e wx ⟨rfl, hb⟩; have HBc := Lib.hid (bel0 HBc.out hb); clear hb HR2)
      | (go_at_call 10; (with_reducible refine (HR3.out _ HBc.out).mono ?_); rintro e wx ⟨rfl, hb⟩; have HBc := Lib.hid (bel0 HBc.out hb); clear hb)
      | (go_at_call 9; (with_reducible refine (HA.out _ HBc.out).mono ?_); rintro e wx ⟨rfl, hb⟩; have HBc := Lib.hid (bel0 HBc.out hb); clear hb))
    go_ret
    exact ⟨rfl, HBc.out⟩
  · have HR2 : Hid (∀ W, Below w.heap.size w W → Calls Tryd.prog 10 #[.string ((⟨#[49, 51, 51, 59]⟩ ++ (⟨#[65, 66, 67]⟩ : ByteArray).extract 1 2) ++ ⟨#[59]⟩ ++ bsB more)] W fun e w' => e = .returned (.agg #[.int .i64 2, .int .i64 0, .bool false, .string ⟨#[]⟩]) ∧ Below W.heap.size W w') := Lib.hid fun W hW => by
      have h := read_any (markL 1 ++ 59 :: more) (by simp [markL]; omega) W (hO.past hW)
      rw [mark_more more 1 (by decide)] at h
      rw [mark_bs2 1 (by decide)]
      exact h
    have HR3 : Hid (∀ W, Below w.heap.size w W → Calls Tryd.prog 10 #[.string (⟨#[49, 51, 51, 59]⟩ ++ (⟨#[65, 66, 67]⟩ : ByteArray).extract 1 2)] W fun e w' => e = .returned (.agg #[.int .i64 2, .int .i64 0, .bool false, .string ⟨#[]⟩]) ∧ Below W.heap.size W w') := Lib.hid fun W hW => by
      have h := read_any (markL 1) (by simp [markL]) W (hO.past hW)
      rw [mark_none 1 (by decide)] at h
      rw [mark_bs 1 (by decide)]
      exact h
    have j0 := field0 2 0 false ⟨#[]⟩
    clear h4
    generalize bsB more = t2 at *
    go_enter Tryd.func8, Tryd.ntmps8
    go_wp2_with (first
      | (go_at_call 10; (with_reducible refine (HR1.out _ HBc.out).mono ?_); rintro e wx ⟨rfl, hb⟩; have HBc := Lib.hid (bel0 HBc.out hb); clear hb HR1)
      | (go_at_call 10; (with_reducible refine (HR2.out _ HBc.out).mono ?_); rintro e wx ⟨rfl, hb⟩; have HBc := Lib.hid (bel0 HBc.out hb); clear hb HR2)
      | (go_at_call 10; (with_reducible refine (HR3.out _ HBc.out).mono ?_); rintro e wx ⟨rfl, hb⟩; have HBc := Lib.hid (bel0 HBc.out hb); clear hb)
      | (go_at_call 9; (with_reducible refine (HA.out _ HBc.out).mono ?_); rintro e wx ⟨rfl, hb⟩; have HBc := Lib.hid (bel0 HBc.out hb); clear hb))
    go_ret
    exact ⟨rfl, HBc.out⟩
  · have HR2 : Hid (∀ W, Below w.heap.size w W → Calls Tryd.prog 10 #[.string ((⟨#[49, 51, 51, 59]⟩ ++ (⟨#[65, 66, 67]⟩ : ByteArray).extract 2 3) ++ ⟨#[59]⟩ ++ bsB more)] W fun e w' => e = .returned (.agg #[.int .i64 3, .int .i64 0, .bool false, .string ⟨#[]⟩]) ∧ Below W.heap.size W w') := Lib.hid fun W hW => by
      have h := read_any (markL 2 ++ 59 :: more) (by simp [markL]; omega) W (hO.past hW)
      rw [mark_more more 2 (by decide)] at h
      rw [mark_bs2 2 (by decide)]
      exact h
    have HR3 : Hid (∀ W, Below w.heap.size w W → Calls Tryd.prog 10 #[.string (⟨#[49, 51, 51, 59]⟩ ++ (⟨#[65, 66, 67]⟩ : ByteArray).extract 2 3)] W fun e w' => e = .returned (.agg #[.int .i64 3, .int .i64 0, .bool false, .string ⟨#[]⟩]) ∧ Below W.heap.size W w') := Lib.hid fun W hW => by
      have h := read_any (markL 2) (by simp [markL]) W (hO.past hW)
      rw [mark_none 2 (by decide)] at h
      rw [mark_bs 2 (by decide)]
      exact h
    have j0 := field0 3 0 false ⟨#[]⟩
    clear h4
    generalize bsB more = t2 at *
    go_enter Tryd.func8, Tryd.ntmps8
    go_wp2_with (first
      | (go_at_call 10; (with_reducible refine (HR1.out _ HBc.out).mono ?_); rintro e wx ⟨rfl, hb⟩; have HBc := Lib.hid (bel0 HBc.out hb); clear hb HR1)
      | (go_at_call 10; (with_reducible refine (HR2.out _ HBc.out).mono ?_); rintro e wx ⟨rfl, hb⟩; have HBc := Lib.hid (bel0 HBc.out hb); clear hb HR2)
      | (go_at_call 10; (with_reducible refine (HR3.out _ HBc.out).mono ?_); rintro e wx ⟨rfl, hb⟩; have HBc := Lib.hid (bel0 HBc.out hb); clear hb)
      | (go_at_call 9; (with_reducible refine (HA.out _ HBc.out).mono ?_); rintro e wx ⟨rfl, hb⟩; have HBc := Lib.hid (bel0 HBc.out hb); clear hb))
    go_ret
    exact ⟨rfl, HBc.out⟩
end Go.Proofs.YtfibbdkfofnojaaDoor
