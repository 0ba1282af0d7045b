/- The walks of the reader's methods and of Read. Written by mkrh.py. -/
import Derived.Test.YtkkhlmilcdlfoaaDoorRg
namespace Go.Proofs.YtkkhlmilcdlfoaaDoor
open Go.RowKit Go.Shelf

theorem rd_past {w W : World} {a b : Value} (hb : Below ((w.alloc (.cells #[a, b] 36)).alloc (.cells #[.int .i64 0, .int .i64 0, .bool false, .string ⟨#[]⟩] 24)).heap.size ((w.alloc (.cells #[a, b] 36)).alloc (.cells #[.int .i64 0, .int .i64 0, .bool false, .string ⟨#[]⟩] 24)) W) :
    W.heap[w.heap.size]? = some (.cells #[a, b] 36 (0, 0)) ∧ W.heap[w.heap.size + 1]? = some (.cells #[.int .i64 0, .int .i64 0, .bool false, .string ⟨#[]⟩] 24 (0, 0)) :=
  ⟨(hb.block _ (by simp; omega)).trans (heap_alloc2_old w _ _), (hb.block _ (by simp)).trans (heap_alloc2_new w _ _)⟩
/-- A reader and the result, both in boxes; what a call behind them leaves. -/
structure RB (w W : World) (a b : Value) : Prop where
  below : Below w.heap.size w W
  rd : W.heap[w.heap.size]? = some (.cells #[a, b] 36 (0, 0))
  sg : W.heap[w.heap.size + 1]? = some (.cells #[.int .i64 0, .int .i64 0, .bool false, .string ⟨#[]⟩] 24 (0, 0))
theorem RB.start (w : World) (a b : Value) : RB w ((w.alloc (.cells #[a, b] 36)).alloc (.cells #[.int .i64 0, .int .i64 0, .bool false, .string ⟨#[]⟩] 24)) a b :=
  ⟨belA (belA (Below.refl _ _) _) _, heap_alloc2_old w _ _, heap_alloc2_new w _ _⟩
theorem RB.past {w W W' : World} {a b : Value} (h : RB w W a b) (hb : Below W.heap.size W W') : RB w W' a b :=
  ⟨bel0 h.below hb, (hb.block _ (Array.getElem?_eq_some_iff.1 h.rd).1).trans h.rd, (hb.block _ (Array.getElem?_eq_some_iff.1 h.sg).1).trans h.sg⟩
theorem RB.cells {w W : World} {a b : Value} (h : RB w W a b) : (W.cell? ⟨w.heap.size, 0, none⟩ = some a ∧ W.cell? ⟨w.heap.size, 1, none⟩ = some b) ∧ (W.cell? ⟨w.heap.size + 1, 0, none⟩ = some (.int .i64 0) ∧ W.cell? ⟨w.heap.size + 1, 1, none⟩ = some (.int .i64 0) ∧ W.cell? ⟨w.heap.size + 1, 2, none⟩ = some (.bool false) ∧ W.cell? ⟨w.heap.size + 1, 3, none⟩ = some (.string ⟨#[]⟩)) ∧ (W.frozen? ⟨w.heap.size + 1, 0, none⟩ = false ∧ W.frozen? ⟨w.heap.size + 1, 1, none⟩ = false ∧ W.frozen? ⟨w.heap.size + 1, 2, none⟩ = false ∧ W.frozen? ⟨w.heap.size + 1, 3, none⟩ = false) :=
  ⟨⟨cell_of_row _ _ 0 _ _ _ h.rd, cell_of_row _ _ 1 _ _ _ h.rd⟩, (sign_cells h.sg).1, (sign_cells h.sg).2⟩
def codeP (l : List UInt8) : Int × Bool := if isCode l then (codeZ l, true) else (0, false)
theorem codeV_eq (l : List UInt8) : codeV l = .tuple #[.int .i64 (codeP l).1, .bool (codeP l).2] := by
  unfold codeV codeP
  cases isCode l <;> rfl
/-- The third field. -/
def third (l : List UInt8) : List UInt8 := fld1 ((fromL l 2).getD [])
theorem third_len (l : List UInt8) : (third l).length ≤ l.length := by
  unfold third
  refine Nat.le_trans (fld1_len _) ?_
  cases h : fromL l 2 with
  | none => exact Nat.zero_le _
  | some t => exact fromL_len h
def behind (l : List UInt8) : List UInt8 := (fromL l 1).getD []
theorem behind_len (l : List UInt8) : (behind l).length ≤ l.length := by
  unfold behind
  cases h : fromL l 1 with
  | none => exact Nat.zero_le _
  | some t => exact fromL_len h
/-- All that the walks read in memory. -/
structure OT (w : World) : Prop where
  mt : MT w
  ml : ML w
theorem OT.past {w w' : World} (h : OT w) (hb : Below w.heap.size w w') : OT w' := ⟨h.mt.past hb, h.ml.past hb⟩
def doneV (l : List UInt8) : Value := sgV 4 (codeP (third l)).1 (codeP (third l)).2 ⟨#[]⟩
set_option maxRecDepth 100000 in
set_option maxHeartbeats 2000000 in
theorem done_any (l f : List UInt8) (hl : l.length ≤ 1200) (w : World) (hO : OT w) : Calls Tryd.prog 43 #[.agg #[.string (bsB l), .string (bsB f)]] w fun e w' => e = .returned (doneV l) ∧ Below w.heap.size w w' := by
  have HS := Lib.hid (RB.start w (.string (bsB l)) (.string (bsB f)))
  have HF := Lib.hid (field_any l (by omega) 2 (by decide) _ (hO.ml.past HS.out.below))
  have h3 := third_len l
  have HC := Lib.hid fun W => code_any (third l) (by omega) W
  simp only [codeV_eq] at HC
  have HV : Hid (doneV l = .agg #[.int .i64 (codeP (third l)).1, .int .i64 0, .bool false, .string ⟨#[]⟩] ∨ True) := Lib.hid (.inr trivial)
  unfold doneV sgV
  change Hid (Calls _ _ #[.agg #[.string (bsB l)], .int .i64 2] _ fun e w' => e = .returned (.tuple #[.string (bsB (third l)), .bool (fromL l 2).isSome]) ∧ _) at HF
  generalize (codeP (third l)).1 = z at *
  generalize (codeP (third l)).2 = h at *
  generalize bsB (third l) = t3 at *
  generalize (fromL l 2).isSome = b2 at *
  generalize bsB l = t at *
  generalize bsB f = tf at *
  clear hl hO h3 HV
  go_enter Tryd.func43, Tryd.ntmps43
  go_wp2_with (first
    | (go_at_call 20; (with_reducible refine (HF.out).mono ?_); rintro e w1 ⟨rfl, hb⟩; have HS1 := Lib.hid (HS.out.past hb); obtain ⟨⟨r0, r1⟩, ⟨c0, c1, c2, c3⟩, f0, f1, f2, f3⟩ := HS1.out.cells; clear hb)
    | (go_at_call 18; (with_reducible refine (HC.out _).mono ?_); rintro e w2 ⟨rfl, hb⟩; have HS2 := Lib.hid (HS1.out.past hb); clear r0 r1 c0 c1 c2 c3 f0 f1 f2 f3; obtain ⟨⟨r0, r1⟩, ⟨c0, c1, c2, c3⟩, f0, f1, f2, f3⟩ := HS2.out.cells; clear hb))
  exact bodyPost_ret (v := .agg #[.int .i64 4, .int .i64 z, .bool h, .string ⟨#[]⟩]) (by simp [results, Tryd.results43, go_sem, *]) rfl ⟨rfl, below_sign HS2.out.below (by omega) _ _ _ _⟩
def zeroV : Value := sgV 0 0 false ⟨#[]⟩
def addressV (l : List UInt8) : Value := match fileL (behind l) with
  | some (_, p) => sgV 6 0 false (bsB (cut256 p))
  | none => zeroV
theorem file_len {l h p : List UInt8} (e : fileL l = some (h, p)) : p.length ≤ l.length := by
  unfold fileL at e
  split at e
  · split at e
    · rename_i k _
      injection e with e
      injection e with _ e2
      rw [← e2]
      refine Nat.le_trans (takeL_len _ _ (Nat.le_refl _)) ?_
      rw [List.length_drop, List.length_drop]
      omega
    · cases e
  · cases e
set_option maxRecDepth 100000 in
set_option maxHeartbeats 4000000 in
theorem address_any (l f : List UInt8) (hl : l.length ≤ 1200) (w : World) (hO : OT w) : Calls Tryd.prog 22 #[.agg #[.string (bsB l), .string (bsB f)]] w fun e w' => e = .returned (addressV l) ∧ Below w.heap.size w w' := by
  have HS := Lib.hid (RB.start w (.string (bsB l)) (.string (bsB f)))
  have HF := Lib.hid (from_any l (by omega) 1 (by decide) _ (hO.ml.past HS.out.below))
  change Hid (Calls _ _ #[.agg #[.string (bsB l)], .int .i64 1] _ fun e w' => e = .returned (.tuple #[.string (bsB (behind l)), .bool (fromL l 1).isSome]) ∧ _) at HF
  have hbl := behind_len l
  have HFI := Lib.hid fun (W : World) (h : RB w W (.string (bsB l)) (.string (bsB f))) => file_any (behind l) (by omega) W (hO.mt.past h.below)
  unfold addressV
  cases hf : fileL (behind l) with
  | none =>
    rw [show fileV (behind l) = .tuple #[.string ⟨#[]⟩, .string ⟨#[]⟩, .int .i64 4] by unfold fileV; rw [hf]] at HFI
    unfold zeroV sgV
    clear hl hO hbl hf
    generalize bsB (behind l) = tb at *
    generalize (fromL l 1).isSome = b1 at *
    generalize bsB l = t at *
    generalize bsB f = tf at *
    go_enter Tryd.func22, Tryd.ntmps22
    go_wp2_with (first
      | (go_at_call 41; (with_reducible refine (HF.out).mono ?_); rintro e w1 ⟨rfl, hb⟩; have HS1 := Lib.hid (HS.out.past hb); obtain ⟨⟨r0, r1⟩, ⟨c0, c1, c2, c3⟩, f0, f1, f2, f3⟩ := HS1.out.cells; clear hb)
      | (go_at_call 45; (with_reducible refine (HFI.out _ HS1.out).mono ?_); rintro e w2 ⟨rfl, hb⟩; have HS2 := Lib.hid (HS1.out.past hb); clear r0 r1 c0 c1 c2 c3 f0 f1 f2 f3; obtain ⟨⟨r0, r1⟩, ⟨c0, c1, c2, c3⟩, f0, f1, f2, f3⟩ := HS2.out.cells; clear hb))
    exact bodyPost_ret (v := .agg #[.int .i64 0, .int .i64 0, .bool false, .string ⟨#[]⟩]) (by simp [results, Tryd.results22, go_sem, *]) rfl ⟨rfl, below_sign HS2.out.below (by omega) _ _ _ _⟩
  | some hp =>
    obtain ⟨h, p⟩ := hp
    show Calls _ _ _ _ fun e w' => e = .returned (sgV 6 0 false (bsB (cut256 p))) ∧ _
    rw [show fileV (behind l) = .tuple #[.string (bsB h), .string (bsB p), .int .i64 0] by unfold fileV; rw [hf]] at HFI
    have hpl := file_len hf
    have HSY := Lib.hid fun W => saying_any 6 p (by omega) W
    unfold sgV at HSY ⊢
    clear hl hO hbl hf hpl
    generalize bsB (cut256 p) = tc at *
    generalize bsB p = tp at *
    generalize bsB h = th at *
    generalize bsB (behind l) = tb at *
    generalize (fromL l 1).isSome = b1 at *
    generalize bsB l = t at *
    generalize bsB f = tf at *
    go_enter Tryd.func22, Tryd.ntmps22
    go_wp2_with (first
      | (go_at_call 41; (with_reducible refine (HF.out).mono ?_); rintro e w1 ⟨rfl, hb⟩; have HS1 := Lib.hid (HS.out.past hb); obtain ⟨⟨r0, r1⟩, ⟨c0, c1, c2, c3⟩, f0, f1, f2, f3⟩ := HS1.out.cells; clear hb)
      | (go_at_call 45; (with_reducible refine (HFI.out _ HS1.out).mono ?_); rintro e w2 ⟨rfl, hb⟩; have HS2 := Lib.hid (HS1.out.past hb); clear r0 r1 c0 c1 c2 c3 f0 f1 f2 f3; obtain ⟨⟨r0, r1⟩, ⟨c0, c1, c2, c3⟩, f0, f1, f2, f3⟩ := HS2.out.cells; clear hb)
      | (go_at_call 46; (with_reducible refine (HSY.out _).mono ?_); rintro e w3 ⟨rfl, hb⟩; have HS3 := Lib.hid (HS2.out.past hb); clear r0 r1 c0 c1 c2 c3 f0 f1 f2 f3; obtain ⟨⟨r0, r1⟩, ⟨c0, c1, c2, c3⟩, f0, f1, f2, f3⟩ := HS3.out.cells; clear hb))
    exact bodyPost_ret (v := .agg #[.int .i64 6, .int .i64 0, .bool false, .string tc]) (by simp [results, Tryd.results22, go_sem, *]) rfl ⟨rfl, below_sign HS3.out.below (by omega) _ _ _ _⟩
def markT : List UInt8 := [83, 101, 116, 77, 97, 114, 107]
def curT : List UInt8 := [67, 117, 114, 114, 101, 110, 116, 68, 105, 114, 61]
def commandV (l : List UInt8) : Value := if behind l = markT then sgV 7 0 false ⟨#[]⟩ else if Lib.hasPrefix (behind l) curT then sgV 6 0 false (bsB (cut256 ((behind l).drop 11))) else zeroV
theorem trim_yes {l p : List UInt8} (h : Lib.hasPrefix l p = true) : Lib.trimPrefix l p = l.drop p.length := by unfold Lib.trimPrefix; rw [if_pos h]
set_option maxRecDepth 100000 in
set_option maxHeartbeats 4000000 in
theorem command_any (l f : List UInt8) (hl : l.length ≤ 1200) (w : World) (hO : OT w) : Calls Tryd.prog 23 #[.agg #[.string (bsB l), .string (bsB f)]] w fun e w' => e = .returned (commandV l) ∧ Below w.heap.size w w' := by
  have HS := Lib.hid (RB.start w (.string (bsB l)) (.string (bsB f)))
  have HF := Lib.hid (from_any l (by omega) 1 (by decide) _ (hO.ml.past HS.out.below))
  change Hid (Calls _ _ #[.agg #[.string (bsB l)], .int .i64 1] _ fun e w' => e = .returned (.tuple #[.string (bsB (behind l)), .bool (fromL l 1).isSome]) ∧ _) at HF
  have hbl := behind_len l
  have HCP := Lib.hid fun W => Tryd.strings_CutPrefix (bsB (behind l)) (bsB curT) W
  unfold commandV
  by_cases h1 : behind l = markT
  · rw [if_pos h1]
    unfold sgV
    have e1 : (bsB (behind l)).toList = [83, 101, 116, 77, 97, 114, 107] := by rw [bs_toList, h1]; rfl
    clear hl hO hbl h1 HCP
    generalize bsB (behind l) = tb at *
    generalize (fromL l 1).isSome = b1 at *
    generalize bsB l = t at *
    generalize bsB f = tf at *
    go_enter Tryd.func23, Tryd.ntmps23
    go_wp2_with (first
      | (go_at_call 41; (with_reducible refine (HF.out).mono ?_); rintro e w1 ⟨rfl, hb⟩; have HS1 := Lib.hid (HS.out.past hb); obtain ⟨⟨r0, r1⟩, ⟨c0, c1, c2, c3⟩, f0, f1, f2, f3⟩ := HS1.out.cells; clear hb))
    exact bodyPost_ret (v := .agg #[.int .i64 7, .int .i64 0, .bool false, .string ⟨#[]⟩]) (by simp [results, Tryd.results23, go_sem, *]) rfl ⟨rfl, below_sign HS1.out.below (by omega) _ _ _ _⟩
  rw [if_neg h1]
  have e1 : ((bsB (behind l)).toList == [83, 101, 116, 77, 97, 114, 107]) = false := by rw [bs_toList]; exact beq_false_of_ne h1
  by_cases h2 : Lib.hasPrefix (behind l) curT = true
  · rw [if_pos h2]
    have HCP2 : Hid (∀ W, Calls Tryd.prog 47 #[.string (bsB (behind l)), .string ⟨#[67, 117, 114, 114, 101, 110, 116, 68, 105, 114, 61]⟩] W fun e w' => e = .returned (.tuple #[.string (bsB ((behind l).drop 11)), .bool true]) ∧ Below W.heap.size W w') := Lib.hid fun W => by
      have h := HCP.out W
      rw [show Lib.hasPrefix (bsB (behind l)).data.toList (bsB curT).data.toList = true from h2, show Lib.trimPrefix (bsB (behind l)).data.toList (bsB curT).data.toList = (behind l).drop 11 from trim_yes h2] at h
      exact h.mono fun e w' ⟨a, b⟩ => ⟨a, by rw [b]; exact Below.refl _ _⟩
    have HSY := Lib.hid fun W => saying_any 6 ((behind l).drop 11) (by rw [List.length_drop]; omega) W
    unfold sgV at HSY ⊢
    clear hl hO hbl h1 h2 HCP
    generalize bsB (cut256 ((behind l).drop 11)) = tc at *
    generalize bsB ((behind l).drop 11) = tp at *
    generalize bsB (behind l) = tb at *
    generalize (fromL l 1).isSome = b1 at *
    generalize bsB l = t at *
    generalize bsB f = tf at *
    go_enter Tryd.func23, Tryd.ntmps23
    go_wp2_with (first
      | (go_at_call 41; (with_reducible refine (HF.out).mono ?_); rintro e w1 ⟨rfl, hb⟩; have HS1 := Lib.hid (HS.out.past hb); obtain ⟨⟨r0, r1⟩, ⟨c0, c1, c2, c3⟩, f0, f1, f2, f3⟩ := HS1.out.cells; clear hb)
      | (go_at_call 47; (with_reducible refine (HCP2.out _).mono ?_); rintro e w2 ⟨rfl, hb⟩; have HS2 := Lib.hid (HS1.out.past hb); clear r0 r1 c0 c1 c2 c3 f0 f1 f2 f3; obtain ⟨⟨r0, r1⟩, ⟨c0, c1, c2, c3⟩, f0, f1, f2, f3⟩ := HS2.out.cells; clear hb)
      | (go_at_call 46; (with_reducible refine (HSY.out _).mono ?_); rintro e w3 ⟨rfl, hb⟩; have HS3 := Lib.hid (HS2.out.past hb); clear r0 r1 c0 c1 c2 c3 f0 f1 f2 f3; obtain ⟨⟨r0, r1⟩, ⟨c0, c1, c2, c3⟩, f0, f1, f2, f3⟩ := HS3.out.cells; clear hb))
    exact bodyPost_ret (v := .agg #[.int .i64 6, .int .i64 0, .bool false, .string tc]) (by simp [results, Tryd.results23, go_sem, *]) rfl ⟨rfl, below_sign HS3.out.below (by omega) _ _ _ _⟩
  · rw [if_neg h2]
    have h2 : Lib.hasPrefix (behind l) curT = false := by simpa using h2
    have HCP2 : Hid (∀ W, Calls Tryd.prog 47 #[.string (bsB (behind l)), .string ⟨#[67, 117, 114, 114, 101, 110, 116, 68, 105, 114, 61]⟩] W fun e w' => e = .returned (.tuple #[.string (bsB (Lib.trimPrefix (behind l) curT)), .bool false]) ∧ Below W.heap.size W w') := Lib.hid fun W => by
      have h := HCP.out W
      rw [show Lib.hasPrefix (bsB (behind l)).data.toList (bsB curT).data.toList = false from h2] at h
      exact h.mono fun e w' ⟨a, b⟩ => ⟨a, by rw [b]; exact Below.refl _ _⟩
    unfold zeroV sgV
    clear hl hO hbl h1 h2 HCP
    generalize bsB (Lib.trimPrefix (behind l) curT) = tp at *
    generalize bsB (behind l) = tb at *
    generalize (fromL l 1).isSome = b1 at *
    generalize bsB l = t at *
    generalize bsB f = tf at *
    go_enter Tryd.func23, Tryd.ntmps23
    go_wp2_with (first
      | (go_at_call 41; (with_reducible refine (HF.out).mono ?_); rintro e w1 ⟨rfl, hb⟩; have HS1 := Lib.hid (HS.out.past hb); obtain ⟨⟨r0, r1⟩, ⟨c0, c1, c2, c3⟩, f0, f1, f2, f3⟩ := HS1.out.cells; clear hb)
      | (go_at_call 47; (with_reducible refine (HCP2.out _).mono ?_); rintro e w2 ⟨rfl, hb⟩; have HS2 := Lib.hid (HS1.out.past hb); clear r0 r1 c0 c1 c2 c3 f0 f1 f2 f3; obtain ⟨⟨r0, r1⟩, ⟨c0, c1, c2, c3⟩, f0, f1, f2, f3⟩ := HS2.out.cells; clear hb))
    exact bodyPost_ret (v := .agg #[.int .i64 0, .int .i64 0, .bool false, .string ⟨#[]⟩]) (by simp [results, Tryd.results23, go_sem, *]) rfl ⟨rfl, below_sign HS2.out.below (by omega) _ _ _ _⟩
def titleV (l : List UInt8) : Value := if (fromL l 1).isSome then sgV 8 0 false (bsB (cut256 (behind l))) else zeroV
set_option maxRecDepth 100000 in
set_option maxHeartbeats 4000000 in
theorem title_any (l f : List UInt8) (hl : l.length ≤ 1200) (w : World) (hO : OT w) : Calls Tryd.prog 24 #[.agg #[.string (bsB l), .string (bsB f)]] w fun e w' => e = .returned (titleV l) ∧ Below w.heap.size w w' := by
  have HS := Lib.hid (RB.start w (.string (bsB l)) (.string (bsB f)))
  have HF := Lib.hid (from_any l (by omega) 1 (by decide) _ (hO.ml.past HS.out.below))
  change Hid (Calls _ _ #[.agg #[.string (bsB l)], .int .i64 1] _ fun e w' => e = .returned (.tuple #[.string (bsB (behind l)), .bool (fromL l 1).isSome]) ∧ _) at HF
  have hbl := behind_len l
  have HSY := Lib.hid fun W => saying_any 8 (behind l) (by omega) W
  unfold titleV
  cases h1 : (fromL l 1).isSome with
  | true =>
    rw [h1] at HF
    rw [if_pos rfl]
    unfold sgV at HSY ⊢
    clear hl hO hbl h1
    generalize bsB (cut256 (behind l)) = tc at *
    generalize bsB (behind l) = tb at *
    generalize bsB l = t at *
    generalize bsB f = tf at *
    go_enter Tryd.func24, Tryd.ntmps24
    go_wp2_with (first
      | (go_at_call 41; (with_reducible refine (HF.out).mono ?_); rintro e w1 ⟨rfl, hb⟩; have HS1 := Lib.hid (HS.out.past hb); obtain ⟨⟨r0, r1⟩, ⟨c0, c1, c2, c3⟩, f0, f1, f2, f3⟩ := HS1.out.cells; clear hb)
      | (go_at_call 46; (with_reducible refine (HSY.out _).mono ?_); rintro e w2 ⟨rfl, hb⟩; have HS2 := Lib.hid (HS1.out.past hb); clear r0 r1 c0 c1 c2 c3 f0 f1 f2 f3; obtain ⟨⟨r0, r1⟩, ⟨c0, c1, c2, c3⟩, f0, f1, f2, f3⟩ := HS2.out.cells; clear hb))
    exact bodyPost_ret (v := .agg #[.int .i64 8, .int .i64 0, .bool false, .string tc]) (by simp [results, Tryd.results24, go_sem, *]) rfl ⟨rfl, below_sign HS2.out.below (by omega) _ _ _ _⟩
  | false =>
    rw [h1] at HF
    rw [if_neg (by decide)]
    unfold zeroV sgV
    clear hl hO hbl h1 HSY
    generalize bsB (behind l) = tb at *
    generalize bsB l = t at *
    generalize bsB f = tf at *
    go_enter Tryd.func24, Tryd.ntmps24
    go_wp2_with (first
      | (go_at_call 41; (with_reducible refine (HF.out).mono ?_); rintro e w1 ⟨rfl, hb⟩; have HS1 := Lib.hid (HS.out.past hb); obtain ⟨⟨r0, r1⟩, ⟨c0, c1, c2, c3⟩, f0, f1, f2, f3⟩ := HS1.out.cells; clear hb))
    exact bodyPost_ret (v := .agg #[.int .i64 0, .int .i64 0, .bool false, .string ⟨#[]⟩]) (by simp [results, Tryd.results24, go_sem, *]) rfl ⟨rfl, below_sign HS1.out.below (by omega) _ _ _ _⟩
end Go.Proofs.YtkkhlmilcdlfoaaDoor
