/- The walk of the document's Text. -/
import Derived.Test.YtlolbfbkoimjkaaDoorBi
namespace Go.Proofs.YtlolbfbkoimjkaaDoor
open Go.RowKit

/-- What stands from W2 on: the attribute's box and the flags' row. -/
structure TB (w W2 : World) (a : AT) : Prop where
  below : Below w.heap.size w W2
  box : W2.heap[w.heap.size]? = some (.cells #[.int .i64 a.fk, .int .i64 a.fn, .int .i64 a.bk, .int .i64 a.bn, .int .i64 a.fl] 29 (0, 0))
  flags : W2.heap[w.heap.size + 1]? = some (.cells flagCells 30 (0, 0))
set_option maxRecDepth 100000 in
theorem TB.start (w : World) (a : AT) : TB w ((w.alloc (.cells #[.int .i64 a.fk, .int .i64 a.fn, .int .i64 a.bk, .int .i64 a.bn, .int .i64 a.fl] 29)).alloc (.cells flagCells 30)) a := by
  refine ⟨belA (belA (Below.refl _ _) _) _, alloc_block (heap_alloc_new w _), ?_⟩
  have h := heap_alloc_new (w.alloc (.cells #[.int .i64 a.fk, .int .i64 a.fn, .int .i64 a.bk, .int .i64 a.bn, .int .i64 a.fl] 29)) (.cells flagCells 30)
  rw [show (w.alloc (.cells #[.int .i64 a.fk, .int .i64 a.fn, .int .i64 a.bk, .int .i64 a.bn, .int .i64 a.fl] 29)).heap.size = w.heap.size + 1 by simp] at h
  exact h
set_option maxRecDepth 100000 in
theorem TB.past {w W2 W : World} {a : AT} (h : TB w W2 a) (hb : Below W2.heap.size W2 W) : TB w W a :=
  ⟨bel0 h.below hb, (hb.block _ (lt_of_block h.box)).trans h.box, (hb.block _ (lt_of_block h.flags)).trans h.flags⟩
set_option maxRecDepth 100000 in
theorem TB.cells {w W : World} {a : AT} (h : TB w W a) : W.cell? ⟨w.heap.size, 0, none⟩ = some (.int .i64 a.fk) ∧ W.cell? ⟨w.heap.size, 1, none⟩ = some (.int .i64 a.fn) ∧ W.cell? ⟨w.heap.size, 2, none⟩ = some (.int .i64 a.bk) ∧ W.cell? ⟨w.heap.size, 3, none⟩ = some (.int .i64 a.bn) ∧ W.cell? ⟨w.heap.size, 4, none⟩ = some (.int .i64 a.fl) :=
  ⟨cell_of_row W _ 0 _ _ _ h.box, cell_of_row W _ 1 _ _ _ h.box, cell_of_row W _ 2 _ _ _ h.box, cell_of_row W _ 3 _ _ _ h.box, cell_of_row W _ 4 _ _ _ h.box⟩
set_option maxRecDepth 100000 in
theorem TB.flag {w W : World} {a : AT} (h : TB w W a) (k : Nat) (hk : k < 10) : W.cell? ⟨w.heap.size + 1, k * 2, none⟩ = some (.int .i64 (fN k)) ∧ W.cell? ⟨w.heap.size + 1, k * 2 + 1, none⟩ = some (.int .i64 (fF k)) := by
  rw [Nat.mul_comm k 2]
  obtain ⟨h1, h2⟩ := flagCells_at k hk
  exact ⟨(cell_of_row W _ _ _ _ _ h.flags).trans h1, (cell_of_row W _ _ _ _ _ h.flags).trans h2⟩

set_option maxRecDepth 100000 in
theorem layT_next {T : List UInt8} (h : T ≠ []) (n : Int) : layT T [n] = T ++ [59] ++ Lib.itoa n := by
  show (if T = [] then [] else T ++ [59]) ++ Lib.itoa n = _
  rw [if_neg h]
set_option maxRecDepth 100000 in
theorem layT_ne (xs : List Int) : layT [] (0 :: xs) ≠ [] := by
  refine snoc_ind (P := fun xs => layT [] (0 :: xs) ≠ []) (by decide +kernel) (fun xs z _ => ?_) xs
  rw [← List.cons_append, layT_snoc]
  split
  · rename_i h _; simp_all
  · simp

def partC (a : AT) (i : Nat) : List UInt8 := if i = 0 then layT [] (0 :: refNums a.fl 10) else if i = 1 then layT (layT [] (0 :: refNums a.fl 10)) (colNums 38 a.fk a.fn) else layT (layT (layT [] (0 :: refNums a.fl 10)) (colNums 38 a.fk a.fn)) (colNums 48 a.bk a.bn)
set_option maxRecDepth 100000 in
theorem itoa_nat (u : Nat) : Lib.itoa (u : Int) = Lib.decDigits u := by
  rw [Lib.itoa, if_neg (by omega), Int.toNat_natCast]
set_option maxRecDepth 100000 in
theorem layT_ne2 {T : List UInt8} (h : T ≠ []) (xs : List Int) : layT T xs ≠ [] := by
  refine snoc_ind (P := fun xs => layT T xs ≠ []) h (fun xs z ih => ?_) xs
  rw [layT_snoc, if_neg ih]
  simp
set_option maxRecDepth 100000 in
theorem layT_five (T : List UInt8) (h : T ≠ []) (which n : Int) (s : List UInt8) (hs : Lib.itoa which = s) : layT T [which, 5, n] = T ++ ([59] ++ (s ++ ([59, 53, 59] ++ Lib.itoa n))) := by
  show layT (layT (layT T [which]) [5]) [n] = _
  rw [layT_next (layT_ne2 (layT_ne2 h _) _), layT_next (layT_ne2 h _), layT_next h, hs, show Lib.itoa 5 = [53] by decide +kernel]
  simp
set_option maxRecDepth 100000 in
theorem layT_mix (T : List UInt8) (h : T ≠ []) (which x y z : Int) (s : List UInt8) (hs : Lib.itoa which = s) : layT T [which, 2, x, y, z] = T ++ ([59] ++ (s ++ ([59, 50, 59] ++ (Lib.itoa x ++ ([59] ++ (Lib.itoa y ++ ([59] ++ Lib.itoa z))))))) := by
  show layT (layT (layT (layT (layT T [which]) [2]) [x]) [y]) [z] = _
  rw [layT_next (layT_ne2 (layT_ne2 (layT_ne2 (layT_ne2 h _) _) _) _), layT_next (layT_ne2 (layT_ne2 (layT_ne2 h _) _) _), layT_next (layT_ne2 (layT_ne2 h _) _), layT_next (layT_ne2 h _), layT_next h, hs, show Lib.itoa 2 = [50] by decide +kernel]
  simp
set_option maxRecDepth 100000 in
theorem bsB_snoc (T : List UInt8) (x : UInt8) : bsB T ++ (⟨#[x]⟩ : ByteArray) = bsB (T ++ [x]) := bsB_app T [x]
set_option maxRecDepth 100000 in
theorem bsB_two (T : List UInt8) (x y : UInt8) : bsB T ++ (⟨#[x, y]⟩ : ByteArray) = bsB (T ++ [x, y]) := bsB_app T [x, y]
set_option maxRecDepth 100000 in
theorem bsB_three (T : List UInt8) (x y z : UInt8) : bsB T ++ (⟨#[x, y, z]⟩ : ByteArray) = bsB (T ++ [x, y, z]) := bsB_app T [x, y, z]
set_option maxRecDepth 100000 in
theorem dec_size (u : Nat) (h : u ≤ 65535) : (bsB (Lib.decDigits u)).size ≤ 21 := by
  have := Lib.itoa_length_le (u : Int) (by omega) (by omega)
  rw [itoa_nat] at this
  rwa [bsB_size]
set_option maxRecDepth 100000 in
theorem five_str (T : List UInt8) (h : T ≠ []) (which : Int) (u : Nat) (p q : UInt8) (hs : Lib.itoa which = [p, q]) : bsB T ++ (⟨#[59]⟩ : ByteArray) ++ (⟨#[p, q]⟩ : ByteArray) ++ (⟨#[59, 53, 59]⟩ : ByteArray) ++ bsB (Lib.decDigits u) = bsB (layT T [which, 5, (u : Int)]) := by
  rw [layT_five T h which u [p, q] hs, bsB_snoc, bsB_two, bsB_three, bsB_app, itoa_nat]
  simp only [List.append_assoc]
set_option maxRecDepth 100000 in
theorem mix_str (T : List UInt8) (h : T ≠ []) (which : Int) (x y z : Nat) (p q : UInt8) (hs : Lib.itoa which = [p, q]) : bsB T ++ (⟨#[59]⟩ : ByteArray) ++ (⟨#[p, q]⟩ : ByteArray) ++ (⟨#[59, 50, 59]⟩ : ByteArray) ++ bsB (Lib.decDigits x) ++ (⟨#[59]⟩ : ByteArray) ++ bsB (Lib.decDigits y) ++ (⟨#[59]⟩ : ByteArray) ++ bsB (Lib.decDigits z) = bsB (layT T [which, 2, (x : Int), (y : Int), (z : Int)]) := by
  rw [layT_mix T h which x y z [p, q] hs, bsB_snoc, bsB_two, bsB_three, bsB_app, bsB_snoc, bsB_app, bsB_snoc, bsB_app, itoa_nat, itoa_nat, itoa_nat]
  simp only [List.append_assoc]
set_option maxRecDepth 100000 in
theorem box_step {w0 W W' : World} {b : Nat} {v : Value} (h : W.cell? ⟨b, 1, none⟩ = some v ∧ b < W.heap.size ∧ Below w0.heap.size w0 W) (hb : Below W.heap.size W W') : W'.cell? ⟨b, 1, none⟩ = some v ∧ b < W'.heap.size ∧ Below w0.heap.size w0 W' :=
  ⟨(hb.cell (p := ⟨b, 1, none⟩) h.2.1).trans h.1, Nat.lt_of_lt_of_le h.2.1 hb.size, bel0 h.2.2 hb⟩

set_option maxRecDepth 100000 in
theorem wrap_small (x : Int) (h0 : 0 ≤ x) (h1 : x ≤ 16777215) : wrap64 x = x ∧ IntKind.i64.wrap x = x := ⟨IntWalk.wrap64_in _ (by omega), IntWalk.i64_in _ (by omega)⟩
set_option maxRecDepth 100000 in
theorem held_below {w0 W : World} {b : Nat} {v : Value} (h : W.cell? ⟨b, 1, none⟩ = some v ∧ b < W.heap.size ∧ Below w0.heap.size w0 W) : Below w0.heap.size w0 W := h.2.2

set_option maxRecDepth 100000 in
set_option maxHeartbeats 16000000 in
theorem refText_any (a : AT) (w : World) (h : rightB a.fk a.fn a.bk a.bn a.fl = true) (hf0 : 0 ≤ a.fl) (hf1 : a.fl < 1024) :
    Calls Tryd.prog 28 #[a.val] w fun e w' => e = .returned (.string (bsB (layT [] (numsP a)))) ∧ Below w.heap.size w w' := by
  have HTB := Lib.hid (TB.start w a)
  have HFL := Lib.hid (fun W => flags_any W)
  unfold FlagsPost at HFL
  have HHAS : Hid (∀ k, k < 10 → ∀ W, Calls Tryd.prog 40 #[.int .i64 a.fl, .int .i64 (fF k)] W fun e w' => e = .returned (.bool (hasB a.fl (fF k))) ∧ w' = W) := Lib.hid fun k hk W => hasF_same a.fl (fF k) hf0 hf1 (fNF_range k hk).2 W
  have HDIG : Hid (∀ (n : Nat) W, n ≤ 65535 → Calls Tryd.prog 20 #[.int .i64 n] W fun e w' => e = .returned (.string (bsB (Lib.decDigits n))) ∧ Below W.heap.size W w') := Lib.hid fun n W hn => digits_any n hn W
  have HSTP := Lib.hid (refNums_step a.fl)
  have HS0 : Hid ((⟨#[48]⟩ : ByteArray) = bsB (layT [] (0 :: refNums a.fl 0))) := Lib.hid (by
    show _ = bsB (layT [] [0])
    decide +kernel)
  have HNS : Hid (refNums a.fl 10 = flagNums a.fl 18) := Lib.hid (fin_all (P := fun f => refNums f 10 = flagNums f 18) nums_same a.fl hf0 hf1)
  have HFIN : Hid (partC a 2 = layT [] (numsP a)) := Lib.hid (by
    unfold partC
    rw [if_neg (by decide), if_neg (by decide), HNS.out, layT_one, layT_one, numsP, List.append_assoc]
    exact congrArg (layT []) (List.cons_append ..))
  have HP0 : Hid (partC a 0 = layT [] (0 :: refNums a.fl 10)) := Lib.hid rfl
  have HP1 : Hid (partC a 1 = layT (partC a 0) (colNums 38 a.fk a.fn)) := Lib.hid rfl
  have HP2 : Hid (partC a 2 = layT (partC a 1) (colNums 48 a.bk a.bn)) := Lib.hid rfl
  have HNE0 : Hid (partC a 0 ≠ []) := Lib.hid (layT_ne _)
  have HNE1 : Hid (partC a 1 ≠ []) := Lib.hid (layT_ne2 (layT_ne _) _)
  have hcf : colorB a.fk a.fn = true := by unfold rightB at h; simp only [Bool.and_eq_true] at h; exact h.1
  have hcb : colorB a.bk a.bn = true := by unfold rightB at h; simp only [Bool.and_eq_true] at h; exact h.2.1
  have HCF := Lib.hid hcf
  have HCB := Lib.hid hcb
  rw [← HFIN.out]
  clear h hf0 hf1 HNS HFIN hcf hcb
  generalize flagCells = FC at *
  show Calls Tryd.prog 28 #[.agg #[.int .i64 a.fk, .int .i64 a.fn, .int .i64 a.bk, .int .i64 a.bn, .int .i64 a.fl]] w _
  go_enter Tryd.func28, Tryd.ntmps28
  go_wp2_with (go_at_call 41; (with_reducible refine (HFL.out _).mono ?_); rintro e w2 ⟨rfl, rfl⟩)
  go_loopw [3, 5] (fun ss ii wr => ∃ (k : Nat) (S : ByteArray), k ≤ 10 ∧ ii = .int .i64 k ∧ ss = .string S ∧ S.size ≤ 22 * (k + 1) ∧ Hid (S = bsB (layT [] (0 :: refNums a.fl k))) ∧ Hid (TB w wr a)) (fun _ ii _ => 10 - (intOf ii).toNat)
  case atStart => exact ⟨0, _, Nat.zero_le _, rfl, rfl, by decide, HS0, HTB⟩
  case round =>
    clear HTB HS0
    obtain ⟨k, S, hk, rfl, rfl, hSS, HS, HB⟩ := hrel
    obtain ⟨x0, x1, x2, x3, x4⟩ := HB.out.cells
    by_cases hlt : k < 10
    · have hki : (k : Int) < 10 := by omega
      obtain ⟨c1, c2⟩ := HB.out.flag k hlt
      have HH := Lib.hid (HHAS.out k hlt)
      have HST := Lib.hid (HSTP.out k hlt)
      have hfn := (fNF_range k hlt).1
      go_wp2_with fail
      go_quiet ((go_at_call 40; exact Calls.quiet_of_same (HH.out _)))
      have HB3 : Hid (∀ n, TB w (wr.drewN n) a) := Lib.hid fun n => HB.out.past (below_drewN (Below.refl _ _) n)
      clear c1 c2 x0 x1 x2 x3 x4
      rename_i nq
      have HB4 := Lib.hid (HB3.out nq)
      generalize wr.drewN nq = w3 at *
      clear HB3
      obtain ⟨c1, c2⟩ := HB4.out.flag k hlt
      obtain ⟨u, hu⟩ : ∃ u : Nat, fN k = u := ⟨(fN k).toNat, by omega⟩
      have hu65 : u ≤ 65535 := by omega
      rw [hu] at c1 HST
      clear hfn hu HB
      have HD : Hid (∀ W, Calls Tryd.prog 20 #[.int .i64 u] W fun e w' => e = .returned (.string (bsB (Lib.decDigits u))) ∧ Below W.heap.size W w') := Lib.hid fun W => HDIG.out u W hu65
      have hDs := dec_size u hu65
      have HLN : Hid (hasB a.fl (fF k) = true → S ++ (⟨#[59]⟩ : ByteArray) ++ bsB (Lib.decDigits u) = bsB (layT [] (0 :: refNums a.fl (k + 1)))) := Lib.hid fun hh => by
        rw [HST.out, if_pos hh, ← List.cons_append, ← layT_one, layT_next (layT_ne _), HS.out, bsB_snoc, bsB_app, itoa_nat]
      have HLO : Hid (hasB a.fl (fF k) = false → S = bsB (layT [] (0 :: refNums a.fl (k + 1)))) := Lib.hid fun hh => by
        rw [HST.out, if_neg (by rw [hh]; decide), List.append_nil]
        exact HS.out
      clear HST HH
      generalize bsB (Lib.decDigits u) = DG at *
      cases hh : hasB a.fl (fF k) with
      | true =>
        have HF := Lib.hid (HLN.out hh)
        have HSZ : Hid ((S ++ (⟨#[59]⟩ : ByteArray) ++ DG).size ≤ 22 * (k + 1 + 1)) := Lib.hid (by
          simp only [ByteArray.size_append]
          have : (⟨#[59]⟩ : ByteArray).size = 1 := rfl
          omega)
        clear HLN HLO HS hh
        go_wp2_with (go_at_call 20; (with_reducible refine (HD.out _).mono ?_); rintro e w5 ⟨rfl, hb5⟩; have HB5 := Lib.hid (HB4.out.past hb5); clear hb5)
        go_roundw
        case rel => exact ⟨k + 1, _, hlt, by go_num, rfl, HSZ.out, HF, HB5⟩
        case measure => simp [intOf]; omega
      | false =>
        have HF := Lib.hid (HLO.out hh)
        clear HLN HLO HS hh
        go_wp2
        go_roundw
        case rel => exact ⟨k + 1, _, hlt, by go_num, rfl, by omega, HF, HB4⟩
        case measure => simp [intOf]; omega
    · obtain rfl : k = 10 := by omega
      have HS1 : Hid (S = bsB (partC a 0)) := Lib.hid HS.out
      rw [show ((10 : Nat) : Int) = 10 from rfl]
      go_wp2
      go_loopw [3, 6] (fun ss ii wr => ∃ (i : Nat) (S : ByteArray), i ≤ 2 ∧ ii = .int .i64 i ∧ ss = .string S ∧ S.size ≤ 242 + 100 * i ∧ Hid (S = bsB (partC a i)) ∧ Hid (TB w wr a)) (fun _ ii _ => 2 - (intOf ii).toNat)
      case atStart => exact ⟨0, S, by decide, rfl, rfl, by omega, HS1, HB⟩
      case round =>
        clear HS1 HS HB hSS x0 x1 x2 x3 x4 HP0 HHAS HSTP
        obtain ⟨i, S, hi, rfl, rfl, hSS, HS, HB⟩ := hrel
        obtain ⟨x0, x1, x2, x3, x4⟩ := HB.out.cells
        have hzz := lt_of_block HB.out.box

        by_cases h0 : i = 0
        · subst h0
          have HT := Lib.hid HNE0.out
          have HPX := Lib.hid HP1.out
          have hcol := HCF.out
          have HSE : Hid (S = bsB (partC a 0)) := HS
          clear HS HP1 HP2 HNE0 HNE1 HCF HCB
          generalize partC a 0 = T at *
          obtain ⟨T2, hT2⟩ : ∃ T2, partC a 1 = T2 := ⟨_, rfl⟩
          rw [hT2] at HPX
          have HT2 := Lib.hid hT2
          clear hT2
          by_cases k1 : a.fk = 1
          · have hn : 0 ≤ a.fn ∧ a.fn ≤ 255 := by rw [k1] at hcol; simpa [colorB] using hcol
            obtain ⟨u, hu⟩ : ∃ u : Nat, a.fn = u := ⟨(a.fn).toNat, by omega⟩
            have hu65 : u ≤ 65535 := by omega
            have HF : Hid (S ++ (⟨#[59]⟩ : ByteArray) ++ (⟨#[51, 56]⟩ : ByteArray) ++ (⟨#[59, 53, 59]⟩ : ByteArray) ++ bsB (Lib.decDigits u) = bsB T2) := Lib.hid (by rw [HPX.out, colNums, if_pos k1, hu, HSE.out]; exact five_str T HT.out 38 u 51 56 (by decide +kernel))
            have HD : Hid (∀ W, Calls Tryd.prog 20 #[.int .i64 u] W fun e w' => e = .returned (.string (bsB (Lib.decDigits u))) ∧ Below W.heap.size W w') := Lib.hid fun W => HDIG.out u W hu65
            have hDs := dec_size u hu65
            have HBB := Lib.hid (fun o => HB.out.past (belA (Below.refl wr.heap.size wr) o))
            rw [k1] at x0
            rw [hu] at x1
            clear hcol hn hu k1 HPX HSE HT HDIG HB
            generalize bsB (Lib.decDigits u) = DG at *
            have HSZ : Hid ((S ++ (⟨#[59]⟩ : ByteArray) ++ (⟨#[51, 56]⟩ : ByteArray) ++ (⟨#[59, 53, 59]⟩ : ByteArray) ++ DG).size ≤ 242 + 100 * (0 + 1)) := Lib.hid (by
              simp only [ByteArray.size_append]
              have e1 : (⟨#[59]⟩ : ByteArray).size = 1 := rfl
              have e2 : (⟨#[51, 56]⟩ : ByteArray).size = 2 := rfl
              have e3 : (⟨#[59, 53, 59]⟩ : ByteArray).size = 3 := rfl
              omega)
            go_wp2_with (go_at_call 20; (with_reducible refine (HD.out _).mono ?_); rintro e w5 ⟨rfl, hb5⟩; have HB5 := Lib.hid ((HBB.out _).past hb5); clear hb5)
            go_roundw
            case rel => exact ⟨1, _, by decide, rfl, rfl, HSZ.out, by rw [HT2.out]; exact HF, HB5⟩
            case measure => simp [intOf]
          by_cases k2 : a.fk = 2
          · have hn : 0 ≤ a.fn ∧ a.fn ≤ 16777215 := by rw [k2] at hcol; simpa [colorB] using hcol
            obtain ⟨u1, hu1⟩ : ∃ u : Nat, a.fn / 65536 = u := ⟨(a.fn / 65536).toNat, by omega⟩
            obtain ⟨u2, hu2⟩ : ∃ u : Nat, a.fn / 256 % 256 = u := ⟨(a.fn / 256 % 256).toNat, by omega⟩
            obtain ⟨u3, hu3⟩ : ∃ u : Nat, a.fn % 256 = u := ⟨(a.fn % 256).toNat, by omega⟩
            have hb1 : u1 ≤ 65535 := by omega
            have HD1 : Hid (∀ W, Calls Tryd.prog 20 #[.int .i64 u1] W fun e w' => e = .returned (.string (bsB (Lib.decDigits u1))) ∧ Below W.heap.size W w') := Lib.hid fun W => HDIG.out u1 W hb1
            have hDs1 := dec_size u1 hb1
            have hb2 : u2 ≤ 65535 := by omega
            have HD2 : Hid (∀ W, Calls Tryd.prog 20 #[.int .i64 u2] W fun e w' => e = .returned (.string (bsB (Lib.decDigits u2))) ∧ Below W.heap.size W w') := Lib.hid fun W => HDIG.out u2 W hb2
            have hDs2 := dec_size u2 hb2
            have hb3 : u3 ≤ 65535 := by omega
            have HD3 : Hid (∀ W, Calls Tryd.prog 20 #[.int .i64 u3] W fun e w' => e = .returned (.string (bsB (Lib.decDigits u3))) ∧ Below W.heap.size W w') := Lib.hid fun W => HDIG.out u3 W hb3
            have hDs3 := dec_size u3 hb3
            have HF : Hid (S ++ (⟨#[59]⟩ : ByteArray) ++ (⟨#[51, 56]⟩ : ByteArray) ++ (⟨#[59, 50, 59]⟩ : ByteArray) ++ bsB (Lib.decDigits u1) ++ (⟨#[59]⟩ : ByteArray) ++ bsB (Lib.decDigits u2) ++ (⟨#[59]⟩ : ByteArray) ++ bsB (Lib.decDigits u3) = bsB T2) := Lib.hid (by rw [HPX.out, colNums, if_neg (by rw [k2]; decide), if_pos k2, hu1, hu2, hu3, HSE.out]; exact mix_str T HT.out 38 u1 u2 u3 51 56 (by decide +kernel))
            have HBB := Lib.hid (fun o => HB.out.past (belA (Below.refl wr.heap.size wr) o))
            rw [k2] at x0
            obtain ⟨n0, n1⟩ := hn
            have m0 : 0 ≤ a.fn / 256 := Int.ediv_nonneg n0 (by decide)
            have m1 : a.fn / 256 ≤ 16777215 := Int.le_trans (Int.ediv_le_self _ n0) n1
            have q1 := (wrap_small u1 (Int.natCast_nonneg _) (Int.le_trans (Int.ofNat_le.2 hb1) (by decide))).2
            have q2 := (wrap_small (a.fn / 256) m0 m1).2
            have q3 := (wrap_small u2 (Int.natCast_nonneg _) (Int.le_trans (Int.ofNat_le.2 hb2) (by decide))).2
            have q4 := (wrap_small u3 (Int.natCast_nonneg _) (Int.le_trans (Int.ofNat_le.2 hb3) (by decide))).2
            have q5 := (wrap_small u1 (Int.natCast_nonneg _) (Int.le_trans (Int.ofNat_le.2 hb1) (by decide))).1
            have q6 := (wrap_small (a.fn / 256) m0 m1).1
            have t1 : (a.fn).tdiv 65536 = u1 := (Int.tdiv_eq_ediv_of_nonneg n0).trans hu1
            have t2 : (a.fn).tdiv 256 = a.fn / 256 := Int.tdiv_eq_ediv_of_nonneg n0
            have t3 : (a.fn / 256).tmod 256 = u2 := (Int.tmod_eq_emod_of_nonneg m0).trans hu2
            have t4 : (a.fn).tmod 256 = u3 := (Int.tmod_eq_emod_of_nonneg n0).trans hu3
            clear hcol hu1 hu2 hu3 m0 m1 k1 k2 HPX HSE HT HDIG HB
            generalize bsB (Lib.decDigits u1) = D1 at *
            generalize bsB (Lib.decDigits u2) = D2 at *
            generalize bsB (Lib.decDigits u3) = D3 at *
            have HSZ : Hid ((S ++ (⟨#[59]⟩ : ByteArray) ++ (⟨#[51, 56]⟩ : ByteArray) ++ (⟨#[59, 50, 59]⟩ : ByteArray) ++ D1 ++ (⟨#[59]⟩ : ByteArray) ++ D2 ++ (⟨#[59]⟩ : ByteArray) ++ D3).size ≤ 242 + 100 * (0 + 1)) := Lib.hid (by
              simp only [ByteArray.size_append]
              have e1 : (⟨#[59]⟩ : ByteArray).size = 1 := rfl
              have e2 : (⟨#[51, 56]⟩ : ByteArray).size = 2 := rfl
              have e3 : (⟨#[59, 50, 59]⟩ : ByteArray).size = 3 := rfl
              omega)
            obtain ⟨X1, hX1⟩ : ∃ X, S ++ (⟨#[59]⟩ : ByteArray) = X := ⟨_, rfl⟩
            obtain ⟨X2, hX2⟩ : ∃ X, X1 ++ (⟨#[51, 56]⟩ : ByteArray) = X := ⟨_, rfl⟩
            obtain ⟨X3, hX3⟩ : ∃ X, X2 ++ (⟨#[59, 50, 59]⟩ : ByteArray) = X := ⟨_, rfl⟩
            obtain ⟨X4, hX4⟩ : ∃ X, X3 ++ D1 = X := ⟨_, rfl⟩
            obtain ⟨X5, hX5⟩ : ∃ X, X4 ++ (⟨#[59]⟩ : ByteArray) = X := ⟨_, rfl⟩
            obtain ⟨X6, hX6⟩ : ∃ X, X5 ++ D2 = X := ⟨_, rfl⟩
            obtain ⟨X7, hX7⟩ : ∃ X, X6 ++ (⟨#[59]⟩ : ByteArray) = X := ⟨_, rfl⟩
            obtain ⟨X8, hX8⟩ : ∃ X, X7 ++ D3 = X := ⟨_, rfl⟩
            rw [hX1, hX2, hX3, hX4, hX5, hX6, hX7, hX8] at HF HSZ
            have e1 : (⟨#[59]⟩ : ByteArray).size = 1 := rfl
            have e2 : (⟨#[51, 56]⟩ : ByteArray).size = 2 := rfl
            have e3 : (⟨#[59, 50, 59]⟩ : ByteArray).size = 3 := rfl
            have z1 : X1.size = S.size + (⟨#[59]⟩ : ByteArray).size := by rw [← hX1, ByteArray.size_append]
            have z2 : X2.size = X1.size + (⟨#[51, 56]⟩ : ByteArray).size := by rw [← hX2, ByteArray.size_append]
            have z3 : X3.size = X2.size + (⟨#[59, 50, 59]⟩ : ByteArray).size := by rw [← hX3, ByteArray.size_append]
            have z4 : X4.size = X3.size + D1.size := by rw [← hX4, ByteArray.size_append]
            have z5 : X5.size = X4.size + (⟨#[59]⟩ : ByteArray).size := by rw [← hX5, ByteArray.size_append]
            have z6 : X6.size = X5.size + D2.size := by rw [← hX6, ByteArray.size_append]
            have z7 : X7.size = X6.size + (⟨#[59]⟩ : ByteArray).size := by rw [← hX7, ByteArray.size_append]
            have z8 : X8.size = X7.size + D3.size := by rw [← hX8, ByteArray.size_append]
            have c1 : ∀ W, (Op.stringOp .add S (⟨#[59]⟩ : ByteArray)).run Tryd.prog W = .ok (.string X1) W := fun W => by rw [run_string_add_sum W _ _ (by omega), hX1]
            have c2 : ∀ W, (Op.stringOp .add X1 (⟨#[51, 56]⟩ : ByteArray)).run Tryd.prog W = .ok (.string X2) W := fun W => by rw [run_string_add_sum W _ _ (by omega), hX2]
            have c3 : ∀ W, (Op.stringOp .add X2 (⟨#[59, 50, 59]⟩ : ByteArray)).run Tryd.prog W = .ok (.string X3) W := fun W => by rw [run_string_add_sum W _ _ (by omega), hX3]
            have c4 : ∀ W, (Op.stringOp .add X3 D1).run Tryd.prog W = .ok (.string X4) W := fun W => by rw [run_string_add_sum W _ _ (by omega), hX4]
            have c5 : ∀ W, (Op.stringOp .add X4 (⟨#[59]⟩ : ByteArray)).run Tryd.prog W = .ok (.string X5) W := fun W => by rw [run_string_add_sum W _ _ (by omega), hX5]
            have c6 : ∀ W, (Op.stringOp .add X5 D2).run Tryd.prog W = .ok (.string X6) W := fun W => by rw [run_string_add_sum W _ _ (by omega), hX6]
            have c7 : ∀ W, (Op.stringOp .add X6 (⟨#[59]⟩ : ByteArray)).run Tryd.prog W = .ok (.string X7) W := fun W => by rw [run_string_add_sum W _ _ (by omega), hX7]
            have c8 : ∀ W, (Op.stringOp .add X7 D3).run Tryd.prog W = .ok (.string X8) W := fun W => by rw [run_string_add_sum W _ _ (by omega), hX8]
            clear hX1 hX2 hX3 hX4 hX5 hX6 hX7 hX8 z1 z2 z3 z4 z5 z6 z7 z8 e1 e2 e3 hDs1 hDs2 hDs3 hSS
            go_wp2_with fail
            have hS0 : ((wr.alloc (.cells #[.int .i64 2, .int .i64 a.fn] 27)).drew.cell? ⟨wr.heap.size, 1, none⟩ = some (.int .i64 a.fn)) ∧ wr.heap.size < (wr.alloc (.cells #[.int .i64 2, .int .i64 a.fn] 27)).drew.heap.size ∧ Below (wr.alloc (.cells #[.int .i64 2, .int .i64 a.fn] 27)).heap.size (wr.alloc (.cells #[.int .i64 2, .int .i64 a.fn] 27)) (wr.alloc (.cells #[.int .i64 2, .int .i64 a.fn] 27)).drew := ⟨(cell_of_row (wr.alloc (.cells #[.int .i64 2, .int .i64 a.fn] 27)) wr.heap.size 1 _ _ _ (heap_alloc_new wr _)).trans rfl, by simp, (Below.refl _ _).drew⟩
            go_region_held3 (fun W => W.cell? ⟨wr.heap.size, 1, none⟩ = some (.int .i64 a.fn) ∧ wr.heap.size < W.heap.size ∧ Below (wr.alloc (.cells #[.int .i64 2, .int .i64 a.fn] 27)).heap.size (wr.alloc (.cells #[.int .i64 2, .int .i64 a.fn] 27)) W)
              (first | exact hS0 | exact box_step hS0 hb6 | exact box_step (by assumption) hb6)
              (first
                | (go_at_call 20; first | ((with_reducible refine (HD1.out _).mono ?_); rintro e w6 ⟨rfl, hb6⟩) | ((with_reducible refine (HD2.out _).mono ?_); rintro e w6 ⟨rfl, hb6⟩) | ((with_reducible refine (HD3.out _).mono ?_); rintro e w6 ⟨rfl, hb6⟩)))
            have HB5 : Hid (∀ W, Below (wr.alloc (.cells #[.int .i64 2, .int .i64 a.fn] 27)).heap.size (wr.alloc (.cells #[.int .i64 2, .int .i64 a.fn] 27)) W → TB w W a) := Lib.hid fun W hW => (HBB.out _).past hW
            have HB6 := Lib.hid (HB5.out _ (held_below (by assumption)))
            go_wp2
            go_roundw
            case rel => exact ⟨1, _, by decide, rfl, rfl, HSZ.out, by rw [HT2.out]; exact HF, HB6⟩
            case measure => simp [intOf]
          have b1 : (a.fk == 1) = false := by simpa using k1
          have b2 : (a.fk == 2) = false := by simpa using k2
          have HF : Hid (S = bsB T2) := Lib.hid (by rw [HPX.out, colNums, if_neg k1, if_neg k2]; exact HSE.out)
          have HBB := Lib.hid (fun o => HB.out.past (belA (Below.refl wr.heap.size wr) o))
          clear hcol k1 k2 HPX HSE HT HDIG HB
          go_wp2
          go_roundw
          case rel => exact ⟨1, _, by decide, rfl, rfl, by omega, by rw [HT2.out]; exact HF, HBB.out _⟩
          case measure => simp [intOf]
        by_cases h1 : i = 1
        · subst h1
          have HT := Lib.hid HNE1.out
          have HPX := Lib.hid HP2.out
          have hcol := HCB.out
          have HSE : Hid (S = bsB (partC a 1)) := HS
          clear HS HP1 HP2 HNE0 HNE1 HCF HCB
          generalize partC a 1 = T at *
          obtain ⟨T2, hT2⟩ : ∃ T2, partC a 2 = T2 := ⟨_, rfl⟩
          rw [hT2] at HPX
          have HT2 := Lib.hid hT2
          clear hT2
          by_cases k1 : a.bk = 1
          · have hn : 0 ≤ a.bn ∧ a.bn ≤ 255 := by rw [k1] at hcol; simpa [colorB] using hcol
            obtain ⟨u, hu⟩ : ∃ u : Nat, a.bn = u := ⟨(a.bn).toNat, by omega⟩
            have hu65 : u ≤ 65535 := by omega
            have HF : Hid (S ++ (⟨#[59]⟩ : ByteArray) ++ (⟨#[52, 56]⟩ : ByteArray) ++ (⟨#[59, 53, 59]⟩ : ByteArray) ++ bsB (Lib.decDigits u) = bsB T2) := Lib.hid (by rw [HPX.out, colNums, if_pos k1, hu, HSE.out]; exact five_str T HT.out 48 u 52 56 (by decide +kernel))
            have HD : Hid (∀ W, Calls Tryd.prog 20 #[.int .i64 u] W fun e w' => e = .returned (.string (bsB (Lib.decDigits u))) ∧ Below W.heap.size W w') := Lib.hid fun W => HDIG.out u W hu65
            have hDs := dec_size u hu65
            have HBB := Lib.hid (fun o => HB.out.past (belA (Below.refl wr.heap.size wr) o))
            rw [k1] at x2
            rw [hu] at x3
            clear hcol hn hu k1 HPX HSE HT HDIG HB
            generalize bsB (Lib.decDigits u) = DG at *
            have HSZ : Hid ((S ++ (⟨#[59]⟩ : ByteArray) ++ (⟨#[52, 56]⟩ : ByteArray) ++ (⟨#[59, 53, 59]⟩ : ByteArray) ++ DG).size ≤ 242 + 100 * (1 + 1)) := Lib.hid (by
              simp only [ByteArray.size_append]
              have e1 : (⟨#[59]⟩ : ByteArray).size = 1 := rfl
              have e2 : (⟨#[52, 56]⟩ : ByteArray).size = 2 := rfl
              have e3 : (⟨#[59, 53, 59]⟩ : ByteArray).size = 3 := rfl
              omega)
            go_wp2_with (go_at_call 20; (with_reducible refine (HD.out _).mono ?_); rintro e w5 ⟨rfl, hb5⟩; have HB5 := Lib.hid ((HBB.out _).past hb5); clear hb5)
            go_roundw
            case rel => exact ⟨2, _, by decide, rfl, rfl, HSZ.out, by rw [HT2.out]; exact HF, HB5⟩
            case measure => simp [intOf]
          by_cases k2 : a.bk = 2
          · have hn : 0 ≤ a.bn ∧ a.bn ≤ 16777215 := by rw [k2] at hcol; simpa [colorB] using hcol
            obtain ⟨u1, hu1⟩ : ∃ u : Nat, a.bn / 65536 = u := ⟨(a.bn / 65536).toNat, by omega⟩
            obtain ⟨u2, hu2⟩ : ∃ u : Nat, a.bn / 256 % 256 = u := ⟨(a.bn / 256 % 256).toNat, by omega⟩
            obtain ⟨u3, hu3⟩ : ∃ u : Nat, a.bn % 256 = u := ⟨(a.bn % 256).toNat, by omega⟩
            have hb1 : u1 ≤ 65535 := by omega
            have HD1 : Hid (∀ W, Calls Tryd.prog 20 #[.int .i64 u1] W fun e w' => e = .returned (.string (bsB (Lib.decDigits u1))) ∧ Below W.heap.size W w') := Lib.hid fun W => HDIG.out u1 W hb1
            have hDs1 := dec_size u1 hb1
            have hb2 : u2 ≤ 65535 := by omega
            have HD2 : Hid (∀ W, Calls Tryd.prog 20 #[.int .i64 u2] W fun e w' => e = .returned (.string (bsB (Lib.decDigits u2))) ∧ Below W.heap.size W w') := Lib.hid fun W => HDIG.out u2 W hb2
            have hDs2 := dec_size u2 hb2
            have hb3 : u3 ≤ 65535 := by omega
            have HD3 : Hid (∀ W, Calls Tryd.prog 20 #[.int .i64 u3] W fun e w' => e = .returned (.string (bsB (Lib.decDigits u3))) ∧ Below W.heap.size W w') := Lib.hid fun W => HDIG.out u3 W hb3
            have hDs3 := dec_size u3 hb3
            have HF : Hid (S ++ (⟨#[59]⟩ : ByteArray) ++ (⟨#[52, 56]⟩ : ByteArray) ++ (⟨#[59, 50, 59]⟩ : ByteArray) ++ bsB (Lib.decDigits u1) ++ (⟨#[59]⟩ : ByteArray) ++ bsB (Lib.decDigits u2) ++ (⟨#[59]⟩ : ByteArray) ++ bsB (Lib.decDigits u3) = bsB T2) := Lib.hid (by rw [HPX.out, colNums, if_neg (by rw [k2]; decide), if_pos k2, hu1, hu2, hu3, HSE.out]; exact mix_str T HT.out 48 u1 u2 u3 52 56 (by decide +kernel))
            have HBB := Lib.hid (fun o => HB.out.past (belA (Below.refl wr.heap.size wr) o))
            rw [k2] at x2
            obtain ⟨n0, n1⟩ := hn
            have m0 : 0 ≤ a.bn / 256 := Int.ediv_nonneg n0 (by decide)
            have m1 : a.bn / 256 ≤ 16777215 := Int.le_trans (Int.ediv_le_self _ n0) n1
            have q1 := (wrap_small u1 (Int.natCast_nonneg _) (Int.le_trans (Int.ofNat_le.2 hb1) (by decide))).2
            have q2 := (wrap_small (a.bn / 256) m0 m1).2
            have q3 := (wrap_small u2 (Int.natCast_nonneg _) (Int.le_trans (Int.ofNat_le.2 hb2) (by decide))).2
            have q4 := (wrap_small u3 (Int.natCast_nonneg _) (Int.le_trans (Int.ofNat_le.2 hb3) (by decide))).2
            have q5 := (wrap_small u1 (Int.natCast_nonneg _) (Int.le_trans (Int.ofNat_le.2 hb1) (by decide))).1
            have q6 := (wrap_small (a.bn / 256) m0 m1).1
            have t1 : (a.bn).tdiv 65536 = u1 := (Int.tdiv_eq_ediv_of_nonneg n0).trans hu1
            have t2 : (a.bn).tdiv 256 = a.bn / 256 := Int.tdiv_eq_ediv_of_nonneg n0
            have t3 : (a.bn / 256).tmod 256 = u2 := (Int.tmod_eq_emod_of_nonneg m0).trans hu2
            have t4 : (a.bn).tmod 256 = u3 := (Int.tmod_eq_emod_of_nonneg n0).trans hu3
            clear hcol hu1 hu2 hu3 m0 m1 k1 k2 HPX HSE HT HDIG HB
            generalize bsB (Lib.decDigits u1) = D1 at *
            generalize bsB (Lib.decDigits u2) = D2 at *
            generalize bsB (Lib.decDigits u3) = D3 at *
            have HSZ : Hid ((S ++ (⟨#[59]⟩ : ByteArray) ++ (⟨#[52, 56]⟩ : ByteArray) ++ (⟨#[59, 50, 59]⟩ : ByteArray) ++ D1 ++ (⟨#[59]⟩ : ByteArray) ++ D2 ++ (⟨#[59]⟩ : ByteArray) ++ D3).size ≤ 242 + 100 * (1 + 1)) := Lib.hid (by
              simp only [ByteArray.size_append]
              have e1 : (⟨#[59]⟩ : ByteArray).size = 1 := rfl
              have e2 : (⟨#[52, 56]⟩ : ByteArray).size = 2 := rfl
              have e3 : (⟨#[59, 50, 59]⟩ : ByteArray).size = 3 := rfl
              omega)
            obtain ⟨X1, hX1⟩ : ∃ X, S ++ (⟨#[59]⟩ : ByteArray) = X := ⟨_, rfl⟩
            obtain ⟨X2, hX2⟩ : ∃ X, X1 ++ (⟨#[52, 56]⟩ : ByteArray) = X := ⟨_, rfl⟩
            obtain ⟨X3, hX3⟩ : ∃ X, X2 ++ (⟨#[59, 50, 59]⟩ : ByteArray) = X := ⟨_, rfl⟩
            obtain ⟨X4, hX4⟩ : ∃ X, X3 ++ D1 = X := ⟨_, rfl⟩
            obtain ⟨X5, hX5⟩ : ∃ X, X4 ++ (⟨#[59]⟩ : ByteArray) = X := ⟨_, rfl⟩
            obtain ⟨X6, hX6⟩ : ∃ X, X5 ++ D2 = X := ⟨_, rfl⟩
            obtain ⟨X7, hX7⟩ : ∃ X, X6 ++ (⟨#[59]⟩ : ByteArray) = X := ⟨_, rfl⟩
            obtain ⟨X8, hX8⟩ : ∃ X, X7 ++ D3 = X := ⟨_, rfl⟩
            rw [hX1, hX2, hX3, hX4, hX5, hX6, hX7, hX8] at HF HSZ
            have e1 : (⟨#[59]⟩ : ByteArray).size = 1 := rfl
            have e2 : (⟨#[52, 56]⟩ : ByteArray).size = 2 := rfl
            have e3 : (⟨#[59, 50, 59]⟩ : ByteArray).size = 3 := rfl
            have z1 : X1.size = S.size + (⟨#[59]⟩ : ByteArray).size := by rw [← hX1, ByteArray.size_append]
            have z2 : X2.size = X1.size + (⟨#[52, 56]⟩ : ByteArray).size := by rw [← hX2, ByteArray.size_append]
            have z3 : X3.size = X2.size + (⟨#[59, 50, 59]⟩ : ByteArray).size := by rw [← hX3, ByteArray.size_append]
            have z4 : X4.size = X3.size + D1.size := by rw [← hX4, ByteArray.size_append]
            have z5 : X5.size = X4.size + (⟨#[59]⟩ : ByteArray).size := by rw [← hX5, ByteArray.size_append]
            have z6 : X6.size = X5.size + D2.size := by rw [← hX6, ByteArray.size_append]
            have z7 : X7.size = X6.size + (⟨#[59]⟩ : ByteArray).size := by rw [← hX7, ByteArray.size_append]
            have z8 : X8.size = X7.size + D3.size := by rw [← hX8, ByteArray.size_append]
            have c1 : ∀ W, (Op.stringOp .add S (⟨#[59]⟩ : ByteArray)).run Tryd.prog W = .ok (.string X1) W := fun W => by rw [run_string_add_sum W _ _ (by omega), hX1]
            have c2 : ∀ W, (Op.stringOp .add X1 (⟨#[52, 56]⟩ : ByteArray)).run Tryd.prog W = .ok (.string X2) W := fun W => by rw [run_string_add_sum W _ _ (by omega), hX2]
            have c3 : ∀ W, (Op.stringOp .add X2 (⟨#[59, 50, 59]⟩ : ByteArray)).run Tryd.prog W = .ok (.string X3) W := fun W => by rw [run_string_add_sum W _ _ (by omega), hX3]
            have c4 : ∀ W, (Op.stringOp .add X3 D1).run Tryd.prog W = .ok (.string X4) W := fun W => by rw [run_string_add_sum W _ _ (by omega), hX4]
            have c5 : ∀ W, (Op.stringOp .add X4 (⟨#[59]⟩ : ByteArray)).run Tryd.prog W = .ok (.string X5) W := fun W => by rw [run_string_add_sum W _ _ (by omega), hX5]
            have c6 : ∀ W, (Op.stringOp .add X5 D2).run Tryd.prog W = .ok (.string X6) W := fun W => by rw [run_string_add_sum W _ _ (by omega), hX6]
            have c7 : ∀ W, (Op.stringOp .add X6 (⟨#[59]⟩ : ByteArray)).run Tryd.prog W = .ok (.string X7) W := fun W => by rw [run_string_add_sum W _ _ (by omega), hX7]
            have c8 : ∀ W, (Op.stringOp .add X7 D3).run Tryd.prog W = .ok (.string X8) W := fun W => by rw [run_string_add_sum W _ _ (by omega), hX8]
            clear hX1 hX2 hX3 hX4 hX5 hX6 hX7 hX8 z1 z2 z3 z4 z5 z6 z7 z8 e1 e2 e3 hDs1 hDs2 hDs3 hSS
            go_wp2_with fail
            have hS0 : ((wr.alloc (.cells #[.int .i64 2, .int .i64 a.bn] 27)).drew.cell? ⟨wr.heap.size, 1, none⟩ = some (.int .i64 a.bn)) ∧ wr.heap.size < (wr.alloc (.cells #[.int .i64 2, .int .i64 a.bn] 27)).drew.heap.size ∧ Below (wr.alloc (.cells #[.int .i64 2, .int .i64 a.bn] 27)).heap.size (wr.alloc (.cells #[.int .i64 2, .int .i64 a.bn] 27)) (wr.alloc (.cells #[.int .i64 2, .int .i64 a.bn] 27)).drew := ⟨(cell_of_row (wr.alloc (.cells #[.int .i64 2, .int .i64 a.bn] 27)) wr.heap.size 1 _ _ _ (heap_alloc_new wr _)).trans rfl, by simp, (Below.refl _ _).drew⟩
            go_region_held3 (fun W => W.cell? ⟨wr.heap.size, 1, none⟩ = some (.int .i64 a.bn) ∧ wr.heap.size < W.heap.size ∧ Below (wr.alloc (.cells #[.int .i64 2, .int .i64 a.bn] 27)).heap.size (wr.alloc (.cells #[.int .i64 2, .int .i64 a.bn] 27)) W)
              (first | exact hS0 | exact box_step hS0 hb6 | exact box_step (by assumption) hb6)
              (first
                | (go_at_call 20; first | ((with_reducible refine (HD1.out _).mono ?_); rintro e w6 ⟨rfl, hb6⟩) | ((with_reducible refine (HD2.out _).mono ?_); rintro e w6 ⟨rfl, hb6⟩) | ((with_reducible refine (HD3.out _).mono ?_); rintro e w6 ⟨rfl, hb6⟩)))
            have HB5 : Hid (∀ W, Below (wr.alloc (.cells #[.int .i64 2, .int .i64 a.bn] 27)).heap.size (wr.alloc (.cells #[.int .i64 2, .int .i64 a.bn] 27)) W → TB w W a) := Lib.hid fun W hW => (HBB.out _).past hW
            have HB6 := Lib.hid (HB5.out _ (held_below (by assumption)))
            go_wp2
            go_roundw
            case rel => exact ⟨2, _, by decide, rfl, rfl, HSZ.out, by rw [HT2.out]; exact HF, HB6⟩
            case measure => simp [intOf]
          have b1 : (a.bk == 1) = false := by simpa using k1
          have b2 : (a.bk == 2) = false := by simpa using k2
          have HF : Hid (S = bsB T2) := Lib.hid (by rw [HPX.out, colNums, if_neg k1, if_neg k2]; exact HSE.out)
          have HBB := Lib.hid (fun o => HB.out.past (belA (Below.refl wr.heap.size wr) o))
          clear hcol k1 k2 HPX HSE HT HDIG HB
          go_wp2
          go_roundw
          case rel => exact ⟨2, _, by decide, rfl, rfl, by omega, by rw [HT2.out]; exact HF, HBB.out _⟩
          case measure => simp [intOf]
        obtain rfl : i = 2 := by omega
        go_wp2
        go_ret
        exact ⟨by rw [HS.out]; rfl, HB.out.below⟩

end Go.Proofs.YtlolbfbkoimjkaaDoor
