/- The walk of the document's digit and Unescape. -/
import Derived.Test.YtkkhlmilcdlfoaaDoorXj
import Derived.Test.YtkkhlmilcdlfoaaDoorRf
namespace Go.Proofs.YtkkhlmilcdlfoaaDoor
open Go.RowKit

theorem take_hex {c : UInt8} {v : Nat} (h : hexV c = some v) : takeL [37, 48, c] = [UInt8.ofNat v] ∧ allL [37, 48, c] = true := by
  have hp : pct1 [37, 48, c] = some (UInt8.ofNat v) := by
    rw [pct1_37]
    unfold hex2
    rw [show hexV 48 = some 0 by decide, h]
    show some (UInt8.ofNat (16 * 0 + v)) = _
    rw [Nat.mul_zero, Nat.zero_add]
  constructor
  · rw [takeL_cons, hp]
    show UInt8.ofNat v :: takeL [] = _
    rw [takeL_nil]
  · rw [allL_cons, hp]
    show allL [] = _
    rw [allL_nil]
theorem take_nohex {c : UInt8} (h : hexV c = none) : allL [37, 48, c] = false := by
  have hp : pct1 [37, 48, c] = none := by
    rw [pct1_37]
    unfold hex2
    rw [show hexV 48 = some 0 by decide, h]
  rw [allL_cons, hp]
  rfl
set_option maxRecDepth 100000 in
set_option maxHeartbeats 2000000 in
theorem refDig_any (c : UInt8) (w : World) : Calls Tryd.prog 36 #[.int .u8 c.toNat] w fun e w' => e = .returned (.int .i64 (dgV c)) ∧ Below w.heap.size w w' := by
  have hcell : (w.alloc (.cells #[.int .u8 c.toNat] 5)).cell? ⟨w.heap.size, 0, none⟩ = some (.int .u8 c.toNat) := cell_of_row _ _ 0 _ _ _ (heap_alloc_new w _)
  have hcv : (Go.convert 46 9 (.slice (some ⟨w.heap.size, 0, none⟩) 1 1)).run Tryd.prog (w.alloc (.cells #[.int .u8 c.toNat] 5)) = .ok (.string (bsB [c])) (w.alloc (.cells #[.int .u8 c.toNat] 5)) :=
    run_convert_bytes_back (P := Tryd.prog) _ 46 9 5 ⟨w.heap.size, 0, none⟩ 1 [c] (by kernel_rfl) (by kernel_rfl) (by kernel_rfl) (fun j hj => by
      obtain rfl : j = 0 := by simpa using hj
      exact hcell)
  have hct : (bsB [c]).size = 1 := by rw [bsB_size]; rfl
  have HW := Lib.hid (belA (Below.refl w.heap.size w) (.cells #[.int .u8 c.toNat] 5))
  have HT0 := Lib.hid fun W => refTake_any [37, 48, c] (by simp) W
  cases h : hexV c with
  | some v =>
    have hv := hexV_lt h
    rw [dgV_some h]
    have HT : Hid (∀ W, Calls Tryd.prog 48 #[.string (⟨#[37, 48]⟩ ++ bsB [c])] W fun e w' => e = .returned (.tuple #[.string (bsB [UInt8.ofNat v]), .bool true]) ∧ Below W.heap.size W w') := Lib.hid fun W => by
      have h2 := HT0.out W
      rw [(take_hex h).1, (take_hex h).2] at h2
      rw [show (⟨#[37, 48]⟩ : ByteArray) = bsB [37, 48] from rfl, bsB_app]
      exact h2
    have j0 : ∀ W, (Instr.index 9 (.string (bsB [UInt8.ofNat v])) (.int .i64 0)).run Tryd.prog W = .ok (.int .u8 v) W := by
      have := idx0_bs (UInt8.ofNat v) []
      rwa [UInt8.toNat_ofNat_of_lt' (by show _ < 256; omega)] at this
    have hs1 : ((bsB [UInt8.ofNat v]).size : Int) = 1 := by rw [bsB_size]; rfl
    clear h HT0
    generalize bsB [UInt8.ofNat v] = tv at *
    generalize bsB [c] = tc at *
    generalize c.toNat = cn at *
    go_enter Tryd.func36, Tryd.ntmps36
    go_wp2_with (go_at_call 48; (with_reducible refine (HT.out _).mono ?_); rintro e w8 ⟨rfl, hb⟩; have HB := Lib.hid (bel0 HW.out hb); clear hb)
    exact bodyPost_ret (v := .int .i64 v) (by simp [results, Tryd.results36, go_sem]) rfl ⟨rfl, HB.out⟩
  | none =>
    rw [dgV_none h]
    have HT : Hid (∀ W, Calls Tryd.prog 48 #[.string (⟨#[37, 48]⟩ ++ bsB [c])] W fun e w' => e = .returned (.tuple #[.string (bsB (takeL [37, 48, c])), .bool false]) ∧ Below W.heap.size W w') := Lib.hid fun W => by
      have h2 := HT0.out W
      rw [take_nohex h] at h2
      rw [show (⟨#[37, 48]⟩ : ByteArray) = bsB [37, 48] from rfl, bsB_app]
      exact h2
    clear h HT0
    generalize bsB (takeL [37, 48, c]) = tv at *
    generalize bsB [c] = tc at *
    generalize c.toNat = cn at *
    go_enter Tryd.func36, Tryd.ntmps36
    go_wp2_with (go_at_call 48; (with_reducible refine (HT.out _).mono ?_); rintro e w8 ⟨rfl, hb⟩; have HB := Lib.hid (bel0 HW.out hb); clear hb)
    exact bodyPost_ret (v := .int .i64 (-1)) (by simp [results, Tryd.results36, go_sem]) rfl ⟨rfl, HB.out⟩
-- UNESCAPE
/-- How far the document's Unescape has come. -/
def UK (l rest D : List UInt8) : Prop := D ++ unescL rest = unescL l ∧ D.length + rest.length ≤ 10000
theorem UK.step {l r D : List UInt8} {c x : UInt8} {n : Nat} (h : UK l (c :: r) D) (he : esc1 c r = (x, n)) : UK l ((c :: r).drop n) (D ++ [x]) := by
  have hl := esc1_len c r
  obtain ⟨h1, h2⟩ := h
  rw [unescL_cons] at h1
  rw [he] at h1 hl
  refine ⟨by rw [List.append_assoc]; exact h1, ?_⟩
  rw [List.length_append, List.length_drop]
  simp only [List.length_cons, List.length_nil] at h2 hl ⊢
  omega
theorem cutN (l : List UInt8) (n : Nat) : (bsB l).extract n (bsB l).size = bsB (l.drop n) := by rw [bs_extract, bsB_size, List.take_of_length_le (by simp)]
theorem idxN (l : List UInt8) (k : Nat) (x : UInt8) (h : l[k]? = some x) : ∀ W, (Instr.index 9 (.string (bsB l)) (.int .i64 k)).run Tryd.prog W = .ok (.int .u8 x.toNat) W := idx_bs l k x h
set_option maxRecDepth 100000 in
set_option maxHeartbeats 8000000 in
theorem refUnescape_any (l : List UInt8) (hl : l.length ≤ 10000) (w : World) : Calls Tryd.prog 17 #[.string (bsB l)] w fun e w' => e = .returned (.string (bsB (unescL l))) ∧ Below w.heap.size w w' := by
  obtain ⟨i0, hi0, hz0, hz1, hz2⟩ := info_parts byteInfo
  have HUK0 : Hid (UK l l []) := Lib.hid ⟨rfl, by simpa using hl⟩
  have HO0 : Hid (w.ownsRow w.heap.size 5 1 (.slice none 0 0) 0 (Lib.byteCells [])) := Lib.hid (World.ownsRow_nil _ _ _ _)
  obtain ⟨r1, hr1⟩ : ∃ r, r = bsB (unescL l) := ⟨_, rfl⟩
  rw [← hr1]
  replace hr1 := Lib.hid hr1
  clear hl
  go_enter Tryd.func17, Tryd.ntmps17
  go_wp2
  go_loopw [0, 3] (fun q v wr => ∃ (rest D : List UInt8) (A : Option Addr) (c : Nat), q = .string (bsB rest) ∧ v = .slice A D.length c ∧ Hid (UK l rest D) ∧ Hid (wr.ownsRow w.heap.size 5 1 (.slice A D.length c) D.length (Lib.byteCells D)) ∧ Hid (Below w.heap.size w wr)) (fun q _ _ => strV q)
  case atStart => exact ⟨l, [], none, 0, rfl, rfl, HUK0, HO0, Lib.hid (Below.refl _ _)⟩
  case round =>
    obtain ⟨rest, D, A, c, rfl, rfl, HUK, HO, HB⟩ := hrel
    cases rest with
    | nil =>
      have hsz : ((bsB []).size : Int) = 0 := by rw [bsB_size]; rfl
      have hcv := conv_own HO.out rfl
      have HR1 : Hid (bsB D = r1) := Lib.hid (by have := HUK.out.1; rw [unescL_nil, List.append_nil] at this; rw [hr1.out, this])
      generalize D.length = dn at *
      generalize bsB D = t1 at *
      generalize bsB [] = t0 at *
      clear HUK HUK0 hr1
      go_wp2
      exact bodyPost_ret (v := .string t1) (by simp [results, Tryd.results17, go_sem]) rfl ⟨by rw [HR1.out], HB.out⟩
    | cons z r =>
      have hTl : D.length ≤ 10000 := by have := HUK.out.2; omega
      have hszw := HB.out.size
      have hDz : ∀ x : UInt8, (D ++ [x]).length = D.length + 1 := fun x => by rw [List.length_append]; rfl
      clear HUK0 HO0 hr1
      by_cases hz : z = 92
      · subst hz
        match r, HUK with
        | [], HUK =>
          have HUK2 := Lib.hid (HUK.out.step (esc1_other (by simp) (by simp)))
          have HBC := Lib.hid (byteCells_snoc D 92)
          have HDZ := Lib.hid (hDz 92)
          have hsz : ((bsB (([92] : List UInt8))).size : Int) = ((1 : Nat) : Int) := by rw [bsB_size]; simp
          have hxt := cutN (([92] : List UInt8)) 1
          have HSM : Hid ((bsB ((([92] : List UInt8)).drop 1)).size < (bsB (([92] : List UInt8))).size) := Lib.hid (by rw [bsB_size, bsB_size, List.length_drop]; simp)
          have i10 : ∀ W, (Instr.index 9 (.string (bsB (([92] : List UInt8)))) (.int .i64 0)).run Tryd.prog W = .ok (.int .u8 92) W := idxN _ 0 92 rfl
          clear HUK hDz
          generalize hrr : (([92] : List UInt8)).drop 1 = rd at *
          clear hrr
          generalize hrb : bsB rd = t2 at *
          replace hrb := Lib.hid hrb
          generalize bsB (([92] : List UInt8)) = t at *
          generalize hD2 : D ++ [92] = D2 at *
          clear hD2
          generalize D.length = dn at *
          generalize Lib.byteCells D = BC at *
          go_wp2_with (first | (at_builtin; go_must (refine wpList_append_own _ rfl _ _ 46 rfl w.heap.size 5 i0 (.int .u8 0) 1 1 Tryd.underlying46 hi0 hz0 hz1 hz2 rfl (by decide) (.slice A dn c) dn BC rfl (HO.out.alloc _) ⟨_, 0, none⟩ 1 1 [.int .u8 92] rfl rfl (news1 _ _ _) (by simp [Value.oneCell']) (by unfold maxLen; omega) (by omega) (by simp; omega) ?_; intro v2 w5 hown2 hgrow2 _; obtain ⟨A2, c2, hv2, _⟩ := own_form hown2; subst hv2; have HO3 := Lib.hid hown2; have HB3 := Lib.hid ((HB.out.alloc hszw _).grown hgrow2 (by simp; omega) (fun j e => (HO.out.lt _ e).1)); clear hown2 hgrow2)))
          all_goals
            go_roundw
            case rel => exact ⟨rd, D2, A2, c2, by rw [hrb.out], by rw [HDZ.out], HUK2, Lib.hid (by rw [HDZ.out, HBC.out]; exact HO3.out), HB3⟩
            case measure => exact HSM.out
        | y :: r', HUK =>
          by_cases hy : y = 92
          · subst hy
            have HUK2 := Lib.hid (HUK.out.step (esc1_bb r'))
            have HBC := Lib.hid (byteCells_snoc D 92)
            have HDZ := Lib.hid (hDz 92)
            have hsz : ((bsB ((92 :: 92 :: r'))).size : Int) = ((r'.length + 2 : Nat) : Int) := by rw [bsB_size]; simp; omega
            have hxt := cutN ((92 :: 92 :: r')) 2
            have HSM : Hid ((bsB (((92 :: 92 :: r')).drop 2)).size < (bsB ((92 :: 92 :: r'))).size) := Lib.hid (by rw [bsB_size, bsB_size, List.length_drop]; simp; omega)
            have i10 : ∀ W, (Instr.index 9 (.string (bsB ((92 :: 92 :: r')))) (.int .i64 0)).run Tryd.prog W = .ok (.int .u8 92) W := idxN _ 0 92 rfl
            have i11 : ∀ W, (Instr.index 9 (.string (bsB ((92 :: 92 :: r')))) (.int .i64 1)).run Tryd.prog W = .ok (.int .u8 92) W := idxN _ 1 92 rfl
            clear HUK hDz
            generalize hrr : ((92 :: 92 :: r')).drop 2 = rd at *
            clear hrr
            generalize hrb : bsB rd = t2 at *
            replace hrb := Lib.hid hrb
            generalize bsB ((92 :: 92 :: r')) = t at *
            generalize hD2 : D ++ [92] = D2 at *
            clear hD2
            generalize D.length = dn at *
            generalize Lib.byteCells D = BC at *
            generalize r'.length = rn at *
            go_wp2_with (first | (at_builtin; go_must (refine wpList_append_own _ rfl _ _ 46 rfl w.heap.size 5 i0 (.int .u8 0) 1 1 Tryd.underlying46 hi0 hz0 hz1 hz2 rfl (by decide) (.slice A dn c) dn BC rfl (HO.out.alloc _) ⟨_, 0, none⟩ 1 1 [.int .u8 92] rfl rfl (news1 _ _ _) (by simp [Value.oneCell']) (by unfold maxLen; omega) (by omega) (by simp; omega) ?_; intro v2 w5 hown2 hgrow2 _; obtain ⟨A2, c2, hv2, _⟩ := own_form hown2; subst hv2; have HO3 := Lib.hid hown2; have HB3 := Lib.hid ((HB.out.alloc hszw _).grown hgrow2 (by simp; omega) (fun j e => (HO.out.lt _ e).1)); clear hown2 hgrow2)))
            all_goals
              go_roundw
              case rel => exact ⟨rd, D2, A2, c2, by rw [hrb.out], by rw [HDZ.out], HUK2, Lib.hid (by rw [HDZ.out, HBC.out]; exact HO3.out), HB3⟩
              case measure => exact HSM.out
          by_cases hx : y = 120
          · subst hx
            match r', HUK with
            | [], HUK =>
              have HUK2 := Lib.hid (HUK.out.step (esc1_other (by simp) (by simp)))
              have HBC := Lib.hid (byteCells_snoc D 92)
              have HDZ := Lib.hid (hDz 92)
              have hsz : ((bsB (([92, 120] : List UInt8))).size : Int) = ((2 : Nat) : Int) := by rw [bsB_size]; simp
              have hxt := cutN (([92, 120] : List UInt8)) 1
              have HSM : Hid ((bsB ((([92, 120] : List UInt8)).drop 1)).size < (bsB (([92, 120] : List UInt8))).size) := Lib.hid (by rw [bsB_size, bsB_size, List.length_drop]; simp)
              have i10 : ∀ W, (Instr.index 9 (.string (bsB (([92, 120] : List UInt8)))) (.int .i64 0)).run Tryd.prog W = .ok (.int .u8 92) W := idxN _ 0 92 rfl
              have i11 : ∀ W, (Instr.index 9 (.string (bsB (([92, 120] : List UInt8)))) (.int .i64 1)).run Tryd.prog W = .ok (.int .u8 120) W := idxN _ 1 120 rfl
              clear HUK hDz
              generalize hrr : (([92, 120] : List UInt8)).drop 1 = rd at *
              clear hrr
              generalize hrb : bsB rd = t2 at *
              replace hrb := Lib.hid hrb
              generalize bsB (([92, 120] : List UInt8)) = t at *
              generalize hD2 : D ++ [92] = D2 at *
              clear hD2
              generalize D.length = dn at *
              generalize Lib.byteCells D = BC at *
              go_wp2_with (first | (at_builtin; go_must (refine wpList_append_own _ rfl _ _ 46 rfl w.heap.size 5 i0 (.int .u8 0) 1 1 Tryd.underlying46 hi0 hz0 hz1 hz2 rfl (by decide) (.slice A dn c) dn BC rfl (HO.out.alloc _) ⟨_, 0, none⟩ 1 1 [.int .u8 92] rfl rfl (news1 _ _ _) (by simp [Value.oneCell']) (by unfold maxLen; omega) (by omega) (by simp; omega) ?_; intro v2 w5 hown2 hgrow2 _; obtain ⟨A2, c2, hv2, _⟩ := own_form hown2; subst hv2; have HO3 := Lib.hid hown2; have HB3 := Lib.hid ((HB.out.alloc hszw _).grown hgrow2 (by simp; omega) (fun j e => (HO.out.lt _ e).1)); clear hown2 hgrow2)))
              all_goals
                go_roundw
                case rel => exact ⟨rd, D2, A2, c2, by rw [hrb.out], by rw [HDZ.out], HUK2, Lib.hid (by rw [HDZ.out, HBC.out]; exact HO3.out), HB3⟩
                case measure => exact HSM.out
            | [a], HUK =>
              have HUK2 := Lib.hid (HUK.out.step (esc1_other (by simp) (by simp)))
              have HBC := Lib.hid (byteCells_snoc D 92)
              have HDZ := Lib.hid (hDz 92)
              have hsz : ((bsB (([92, 120, a] : List UInt8))).size : Int) = ((3 : Nat) : Int) := by rw [bsB_size]; simp
              have hxt := cutN (([92, 120, a] : List UInt8)) 1
              have HSM : Hid ((bsB ((([92, 120, a] : List UInt8)).drop 1)).size < (bsB (([92, 120, a] : List UInt8))).size) := Lib.hid (by rw [bsB_size, bsB_size, List.length_drop]; simp)
              have i10 : ∀ W, (Instr.index 9 (.string (bsB (([92, 120, a] : List UInt8)))) (.int .i64 0)).run Tryd.prog W = .ok (.int .u8 92) W := idxN _ 0 92 rfl
              have i11 : ∀ W, (Instr.index 9 (.string (bsB (([92, 120, a] : List UInt8)))) (.int .i64 1)).run Tryd.prog W = .ok (.int .u8 120) W := idxN _ 1 120 rfl
              clear HUK hDz
              generalize hrr : (([92, 120, a] : List UInt8)).drop 1 = rd at *
              clear hrr
              generalize hrb : bsB rd = t2 at *
              replace hrb := Lib.hid hrb
              generalize bsB (([92, 120, a] : List UInt8)) = t at *
              generalize hD2 : D ++ [92] = D2 at *
              clear hD2
              generalize D.length = dn at *
              generalize Lib.byteCells D = BC at *
              go_wp2_with (first | (at_builtin; go_must (refine wpList_append_own _ rfl _ _ 46 rfl w.heap.size 5 i0 (.int .u8 0) 1 1 Tryd.underlying46 hi0 hz0 hz1 hz2 rfl (by decide) (.slice A dn c) dn BC rfl (HO.out.alloc _) ⟨_, 0, none⟩ 1 1 [.int .u8 92] rfl rfl (news1 _ _ _) (by simp [Value.oneCell']) (by unfold maxLen; omega) (by omega) (by simp; omega) ?_; intro v2 w5 hown2 hgrow2 _; obtain ⟨A2, c2, hv2, _⟩ := own_form hown2; subst hv2; have HO3 := Lib.hid hown2; have HB3 := Lib.hid ((HB.out.alloc hszw _).grown hgrow2 (by simp; omega) (fun j e => (HO.out.lt _ e).1)); clear hown2 hgrow2)))
              all_goals
                go_roundw
                case rel => exact ⟨rd, D2, A2, c2, by rw [hrb.out], by rw [HDZ.out], HUK2, Lib.hid (by rw [HDZ.out, HBC.out]; exact HO3.out), HB3⟩
                case measure => exact HSM.out
            | a :: d :: r'', HUK =>
              cases ha : hexV a with
              | none =>
                have HUK2 := Lib.hid (HUK.out.step (show esc1 92 (120 :: a :: d :: r'') = (92, 1) from by rw [esc1_x]; unfold hex2; rw [ha]))
                have HBC := Lib.hid (byteCells_snoc D 92)
                have HDZ := Lib.hid (hDz 92)
                have hsz : ((bsB ((92 :: 120 :: a :: d :: r''))).size : Int) = ((r''.length + 4 : Nat) : Int) := by rw [bsB_size]; simp; omega
                have hxt := cutN ((92 :: 120 :: a :: d :: r'')) 1
                have HSM : Hid ((bsB (((92 :: 120 :: a :: d :: r'')).drop 1)).size < (bsB ((92 :: 120 :: a :: d :: r''))).size) := Lib.hid (by rw [bsB_size, bsB_size, List.length_drop]; simp)
                have i10 : ∀ W, (Instr.index 9 (.string (bsB ((92 :: 120 :: a :: d :: r'')))) (.int .i64 0)).run Tryd.prog W = .ok (.int .u8 92) W := idxN _ 0 92 rfl
                have i11 : ∀ W, (Instr.index 9 (.string (bsB ((92 :: 120 :: a :: d :: r'')))) (.int .i64 1)).run Tryd.prog W = .ok (.int .u8 120) W := idxN _ 1 120 rfl
                have i12 : ∀ W, (Instr.index 9 (.string (bsB ((92 :: 120 :: a :: d :: r'')))) (.int .i64 2)).run Tryd.prog W = .ok (.int .u8 a.toNat) W := idxN _ 2 a rfl
                have i13 : ∀ W, (Instr.index 9 (.string (bsB ((92 :: 120 :: a :: d :: r'')))) (.int .i64 3)).run Tryd.prog W = .ok (.int .u8 d.toNat) W := idxN _ 3 d rfl
                have HD1 := Lib.hid (refDig_any a)
                rw [dgV_none ha] at HD1
                clear HUK hDz
                generalize hrr : ((92 :: 120 :: a :: d :: r'')).drop 1 = rd at *
                clear hrr
                generalize hrb : bsB rd = t2 at *
                replace hrb := Lib.hid hrb
                generalize bsB ((92 :: 120 :: a :: d :: r'')) = t at *
                generalize hD2 : D ++ [92] = D2 at *
                clear hD2
                generalize D.length = dn at *
                generalize Lib.byteCells D = BC at *
                generalize r''.length = rn at *
                generalize a.toNat = an at *
                generalize d.toNat = en at *
                go_wp2_with (first | (go_at_call 36; (with_reducible refine (HD1.out _).mono ?_); rintro e w8 ⟨rfl, hb⟩; have HO := Lib.hid (own_past HO.out ⟨hb.os, hb.tape, hb.output, hb.size, hb.block⟩); have HB := Lib.hid (bel0 HB.out ⟨hb.os, hb.tape, hb.output, hb.size, hb.block⟩); have hszw := HB.out.size; clear hb) | (at_builtin; go_must (refine wpList_append_own _ rfl _ _ 46 rfl w.heap.size 5 i0 (.int .u8 0) 1 1 Tryd.underlying46 hi0 hz0 hz1 hz2 rfl (by decide) (.slice A dn c) dn BC rfl (HO.out.alloc _) ⟨_, 0, none⟩ 1 1 [.int .u8 92] rfl rfl (news1 _ _ _) (by simp [Value.oneCell']) (by unfold maxLen; omega) (by omega) (by simp; omega) ?_; intro v2 w5 hown2 hgrow2 _; obtain ⟨A2, c2, hv2, _⟩ := own_form hown2; subst hv2; have HO3 := Lib.hid hown2; have HB3 := Lib.hid ((HB.out.alloc hszw _).grown hgrow2 (by simp; omega) (fun j e => (HO.out.lt _ e).1)); clear hown2 hgrow2)))
                all_goals
                  go_roundw
                  case rel => exact ⟨rd, D2, A2, c2, by rw [hrb.out], by rw [HDZ.out], HUK2, Lib.hid (by rw [HDZ.out, HBC.out]; exact HO3.out), HB3⟩
                  case measure => exact HSM.out
              | some va =>
                have hva := hexV_lt ha
                cases hd : hexV d with
                | none =>
                  have HUK2 := Lib.hid (HUK.out.step (show esc1 92 (120 :: a :: d :: r'') = (92, 1) from by rw [esc1_x]; unfold hex2; rw [ha, hd]))
                  have HBC := Lib.hid (byteCells_snoc D 92)
                  have HDZ := Lib.hid (hDz 92)
                  have hsz : ((bsB ((92 :: 120 :: a :: d :: r''))).size : Int) = ((r''.length + 4 : Nat) : Int) := by rw [bsB_size]; simp; omega
                  have hxt := cutN ((92 :: 120 :: a :: d :: r'')) 1
                  have HSM : Hid ((bsB (((92 :: 120 :: a :: d :: r'')).drop 1)).size < (bsB ((92 :: 120 :: a :: d :: r''))).size) := Lib.hid (by rw [bsB_size, bsB_size, List.length_drop]; simp)
                  have i10 : ∀ W, (Instr.index 9 (.string (bsB ((92 :: 120 :: a :: d :: r'')))) (.int .i64 0)).run Tryd.prog W = .ok (.int .u8 92) W := idxN _ 0 92 rfl
                  have i11 : ∀ W, (Instr.index 9 (.string (bsB ((92 :: 120 :: a :: d :: r'')))) (.int .i64 1)).run Tryd.prog W = .ok (.int .u8 120) W := idxN _ 1 120 rfl
                  have i12 : ∀ W, (Instr.index 9 (.string (bsB ((92 :: 120 :: a :: d :: r'')))) (.int .i64 2)).run Tryd.prog W = .ok (.int .u8 a.toNat) W := idxN _ 2 a rfl
                  have i13 : ∀ W, (Instr.index 9 (.string (bsB ((92 :: 120 :: a :: d :: r'')))) (.int .i64 3)).run Tryd.prog W = .ok (.int .u8 d.toNat) W := idxN _ 3 d rfl
                  have HD1 := Lib.hid (refDig_any a)
                  rw [dgV_some ha] at HD1
                  have HD2 := Lib.hid (refDig_any d)
                  rw [dgV_none hd] at HD2
                  clear HUK hDz
                  generalize hrr : ((92 :: 120 :: a :: d :: r'')).drop 1 = rd at *
                  clear hrr
                  generalize hrb : bsB rd = t2 at *
                  replace hrb := Lib.hid hrb
                  generalize bsB ((92 :: 120 :: a :: d :: r'')) = t at *
                  generalize hD2 : D ++ [92] = D2 at *
                  clear hD2
                  generalize D.length = dn at *
                  generalize Lib.byteCells D = BC at *
                  generalize r''.length = rn at *
                  generalize a.toNat = an at *
                  generalize d.toNat = en at *
                  go_wp2_with (first | (go_at_call 36; (with_reducible refine (HD1.out _).mono ?_); rintro e w8 ⟨rfl, hb⟩; have HO := Lib.hid (own_past HO.out ⟨hb.os, hb.tape, hb.output, hb.size, hb.block⟩); have HB := Lib.hid (bel0 HB.out ⟨hb.os, hb.tape, hb.output, hb.size, hb.block⟩); have hszw := HB.out.size; clear hb) | (go_at_call 36; (with_reducible refine (HD2.out _).mono ?_); rintro e w8 ⟨rfl, hb⟩; have HO := Lib.hid (own_past HO.out ⟨hb.os, hb.tape, hb.output, hb.size, hb.block⟩); have HB := Lib.hid (bel0 HB.out ⟨hb.os, hb.tape, hb.output, hb.size, hb.block⟩); have hszw := HB.out.size; clear hb) | (at_builtin; go_must (refine wpList_append_own _ rfl _ _ 46 rfl w.heap.size 5 i0 (.int .u8 0) 1 1 Tryd.underlying46 hi0 hz0 hz1 hz2 rfl (by decide) (.slice A dn c) dn BC rfl (HO.out.alloc _) ⟨_, 0, none⟩ 1 1 [.int .u8 92] rfl rfl (news1 _ _ _) (by simp [Value.oneCell']) (by unfold maxLen; omega) (by omega) (by simp; omega) ?_; intro v2 w5 hown2 hgrow2 _; obtain ⟨A2, c2, hv2, _⟩ := own_form hown2; subst hv2; have HO3 := Lib.hid hown2; have HB3 := Lib.hid ((HB.out.alloc hszw _).grown hgrow2 (by simp; omega) (fun j e => (HO.out.lt _ e).1)); clear hown2 hgrow2)))
                  all_goals
                    go_roundw
                    case rel => exact ⟨rd, D2, A2, c2, by rw [hrb.out], by rw [HDZ.out], HUK2, Lib.hid (by rw [HDZ.out, HBC.out]; exact HO3.out), HB3⟩
                    case measure => exact HSM.out
                | some vd =>
                  have hvd := hexV_lt hd
                  have hx4 : esc1 92 (120 :: a :: d :: r'') = (UInt8.ofNat (16 * va + vd), 4) := by rw [esc1_x]; unfold hex2; rw [ha, hd]
                  have HUK2 := Lib.hid (HUK.out.step hx4)
                  have hxn : (UInt8.ofNat (16 * va + vd)).toNat = 16 * va + vd := UInt8.toNat_ofNat_of_lt' (by show _ < 256; omega)
                  have HBX : Hid (Lib.byteCells (D ++ [UInt8.ofNat (16 * va + vd)]) = Lib.byteCells D ++ [.int .u8 ((16 * va + vd : Nat) : Int)]) := Lib.hid (by rw [byteCells_snoc, hxn])
                  have HDX := Lib.hid (hDz (UInt8.ofNat (16 * va + vd)))
                  have hsz : ((bsB (92 :: 120 :: a :: d :: r'')).size : Int) = ((r''.length + 4 : Nat) : Int) := by rw [bsB_size]; simp; omega
                  have hxt := cutN (92 :: 120 :: a :: d :: r'') 4
                  have HSM : Hid ((bsB ((92 :: 120 :: a :: d :: r'').drop 4)).size < (bsB (92 :: 120 :: a :: d :: r'')).size) := Lib.hid (by rw [bsB_size, bsB_size, List.length_drop]; simp; omega)
                  have i10 : ∀ W, (Instr.index 9 (.string (bsB (92 :: 120 :: a :: d :: r''))) (.int .i64 0)).run Tryd.prog W = .ok (.int .u8 92) W := idxN _ 0 92 rfl
                  have i11 : ∀ W, (Instr.index 9 (.string (bsB (92 :: 120 :: a :: d :: r''))) (.int .i64 1)).run Tryd.prog W = .ok (.int .u8 120) W := idxN _ 1 120 rfl
                  have i12 : ∀ W, (Instr.index 9 (.string (bsB (92 :: 120 :: a :: d :: r''))) (.int .i64 2)).run Tryd.prog W = .ok (.int .u8 a.toNat) W := idxN _ 2 a rfl
                  have i13 : ∀ W, (Instr.index 9 (.string (bsB (92 :: 120 :: a :: d :: r''))) (.int .i64 3)).run Tryd.prog W = .ok (.int .u8 d.toNat) W := idxN _ 3 d rfl
                  have HD1 := Lib.hid (refDig_any a)
                  rw [dgV_some ha] at HD1
                  have HD2 := Lib.hid (refDig_any d)
                  rw [dgV_some hd] at HD2
                  clear HUK hDz hx4 hxn ha hd
                  generalize hrr : (92 :: 120 :: a :: d :: r'').drop 4 = rd at *
                  clear hrr
                  generalize hrb : bsB rd = t2 at *
                  replace hrb := Lib.hid hrb
                  generalize bsB (92 :: 120 :: a :: d :: r'') = t at *
                  obtain ⟨z1, hw1⟩ : ∃ z1 : Int, IntKind.i64.wrap (16 * (va : Int)) = z1 := ⟨_, rfl⟩
                  obtain ⟨z2, hw2⟩ : ∃ z2 : Int, IntKind.i64.wrap (z1 + vd) = z2 := ⟨_, rfl⟩
                  have e1 : z1 = 16 * (va : Int) := by rw [← hw1]; exact wrapS64 _ (by omega) (by omega)
                  have e2 : z2 = 16 * (va : Int) + vd := by rw [← hw2, e1]; exact wrapS64 _ (by omega) (by omega)
                  have hw3 : IntKind.u8.wrap z2 = ((16 * va + vd : Nat) : Int) := by
                    rw [e2, wrapS8 _ (by omega) (by omega)]
                    omega
                  clear e1 e2
                  generalize D ++ [UInt8.ofNat (16 * va + vd)] = D2 at *
                  generalize 16 * va + vd = xn at *
                  generalize D.length = dn at *
                  generalize Lib.byteCells D = BC at *
                  generalize r''.length = rn at *
                  generalize a.toNat = an at *
                  generalize d.toNat = en at *
                  go_wp2_with (first | (go_at_call 36; (with_reducible refine (HD1.out _).mono ?_); rintro e w8 ⟨rfl, hb⟩; have HO := Lib.hid (own_past HO.out ⟨hb.os, hb.tape, hb.output, hb.size, hb.block⟩); have HB := Lib.hid (bel0 HB.out ⟨hb.os, hb.tape, hb.output, hb.size, hb.block⟩); have hszw := HB.out.size; clear hb) | (go_at_call 36; (with_reducible refine (HD2.out _).mono ?_); rintro e w8 ⟨rfl, hb⟩; have HO := Lib.hid (own_past HO.out ⟨hb.os, hb.tape, hb.output, hb.size, hb.block⟩); have HB := Lib.hid (bel0 HB.out ⟨hb.os, hb.tape, hb.output, hb.size, hb.block⟩); have hszw := HB.out.size; clear hb))
                  go_region_law (first
                    | ((refine step_append_own rfl _ _ 46 rfl w.heap.size 5 i0 (.int .u8 0) 1 1 Tryd.underlying46 hi0 hz0 hz1 hz2 rfl (by decide) (.slice A dn c) dn BC rfl (HO.out.alloc _) ⟨_, 0, none⟩ 1 1 [.int .u8 (xn : Int)] rfl rfl (news1 _ _ _) (by simp [Value.oneCell']) (by unfold maxLen; omega) (by omega) (by simp; omega) ?_); intro v2 w5 hown2 hgrow2; obtain ⟨A2, c2, hv2, _⟩ := own_form hown2; subst hv2; have HO3 := Lib.hid hown2; have HB3 := Lib.hid ((HB.out.alloc hszw (.cells #[.int .u8 (xn : Int)] 5)).grown hgrow2 (by simp; omega) (fun j e => (HO.out.lt _ e).1)); clear hown2 hgrow2)
                    | (go_simp; go_at_call 36; (with_reducible refine (HD1.out _).mono ?_); rintro e w8 ⟨rfl, hb⟩; have HO := Lib.hid (own_past HO.out ⟨hb.os, hb.tape, hb.output, hb.size, hb.block⟩); have HB := Lib.hid (bel0 HB.out ⟨hb.os, hb.tape, hb.output, hb.size, hb.block⟩); have hszw := HB.out.size; clear hb)
                    | (go_simp; go_at_call 36; (with_reducible refine (HD2.out _).mono ?_); rintro e w8 ⟨rfl, hb⟩; have HO := Lib.hid (own_past HO.out ⟨hb.os, hb.tape, hb.output, hb.size, hb.block⟩); have HB := Lib.hid (bel0 HB.out ⟨hb.os, hb.tape, hb.output, hb.size, hb.block⟩); have hszw := HB.out.size; clear hb))
                  all_goals
                    (try simp only [Exit.then])
                    go_wp2
                    go_roundw
                    case rel => exact ⟨rd, D2, A2, c2, by rw [hrb.out], by rw [HDX.out], HUK2, Lib.hid (by rw [HDX.out, HBX.out]; exact HO3.out), HB3⟩
                    case measure => exact HSM.out
          · have hne1 : ¬ ((y.toNat : Int) = 92) := by
              have : y.toNat ≠ 92 := fun e => hy (UInt8.toNat_inj.1 e)
              omega
            have hne2 : ¬ ((y.toNat : Int) = 120) := by
              have : y.toNat ≠ 120 := fun e => hx (UInt8.toNat_inj.1 e)
              omega
            have HUK2 := Lib.hid (HUK.out.step (esc1_other (fun h => hy (by simpa using h)) (fun h => hx (by simpa using h.1))))
            have HBC := Lib.hid (byteCells_snoc D 92)
            have HDZ := Lib.hid (hDz 92)
            have hsz : ((bsB ((92 :: y :: r'))).size : Int) = ((r'.length + 2 : Nat) : Int) := by rw [bsB_size]; simp; omega
            have hxt := cutN ((92 :: y :: r')) 1
            have HSM : Hid ((bsB (((92 :: y :: r')).drop 1)).size < (bsB ((92 :: y :: r'))).size) := Lib.hid (by rw [bsB_size, bsB_size, List.length_drop]; simp)
            have i10 : ∀ W, (Instr.index 9 (.string (bsB ((92 :: y :: r')))) (.int .i64 0)).run Tryd.prog W = .ok (.int .u8 92) W := idxN _ 0 92 rfl
            have i11 : ∀ W, (Instr.index 9 (.string (bsB ((92 :: y :: r')))) (.int .i64 1)).run Tryd.prog W = .ok (.int .u8 y.toNat) W := idxN _ 1 y rfl
            clear HUK hDz
            generalize hrr : ((92 :: y :: r')).drop 1 = rd at *
            clear hrr
            generalize hrb : bsB rd = t2 at *
            replace hrb := Lib.hid hrb
            generalize bsB ((92 :: y :: r')) = t at *
            generalize hD2 : D ++ [92] = D2 at *
            clear hD2
            generalize D.length = dn at *
            generalize Lib.byteCells D = BC at *
            generalize r'.length = rn at *
            generalize y.toNat = yn at *
            go_wp2_with (first | (at_builtin; go_must (refine wpList_append_own _ rfl _ _ 46 rfl w.heap.size 5 i0 (.int .u8 0) 1 1 Tryd.underlying46 hi0 hz0 hz1 hz2 rfl (by decide) (.slice A dn c) dn BC rfl (HO.out.alloc _) ⟨_, 0, none⟩ 1 1 [.int .u8 92] rfl rfl (news1 _ _ _) (by simp [Value.oneCell']) (by unfold maxLen; omega) (by omega) (by simp; omega) ?_; intro v2 w5 hown2 hgrow2 _; obtain ⟨A2, c2, hv2, _⟩ := own_form hown2; subst hv2; have HO3 := Lib.hid hown2; have HB3 := Lib.hid ((HB.out.alloc hszw _).grown hgrow2 (by simp; omega) (fun j e => (HO.out.lt _ e).1)); clear hown2 hgrow2)))
            all_goals
              go_roundw
              case rel => exact ⟨rd, D2, A2, c2, by rw [hrb.out], by rw [HDZ.out], HUK2, Lib.hid (by rw [HDZ.out, HBC.out]; exact HO3.out), HB3⟩
              case measure => exact HSM.out
      · have hne : ¬ ((z.toNat : Int) = 92) := by
          have : z.toNat ≠ 92 := fun e => hz (UInt8.toNat_inj.1 e)
          omega
        have HUK2 := Lib.hid (HUK.out.step (esc1_ne hz r))
        have HBC := Lib.hid (byteCells_snoc D z)
        have HDZ := Lib.hid (hDz z)
        have hsz : ((bsB ((z :: r))).size : Int) = ((r.length + 1 : Nat) : Int) := by rw [bsB_size]; simp
        have hxt := cutN ((z :: r)) 1
        have HSM : Hid ((bsB (((z :: r)).drop 1)).size < (bsB ((z :: r))).size) := Lib.hid (by rw [bsB_size, bsB_size, List.length_drop]; simp)
        have i10 : ∀ W, (Instr.index 9 (.string (bsB ((z :: r)))) (.int .i64 0)).run Tryd.prog W = .ok (.int .u8 z.toNat) W := idxN _ 0 z rfl
        clear HUK hDz
        generalize hrr : ((z :: r)).drop 1 = rd at *
        clear hrr
        generalize hrb : bsB rd = t2 at *
        replace hrb := Lib.hid hrb
        generalize bsB ((z :: r)) = t at *
        generalize hD2 : D ++ [z] = D2 at *
        clear hD2
        generalize D.length = dn at *
        generalize Lib.byteCells D = BC at *
        generalize r.length = rn at *
        generalize z.toNat = zn at *
        go_wp2_with (first | (at_builtin; go_must (refine wpList_append_own _ rfl _ _ 46 rfl w.heap.size 5 i0 (.int .u8 0) 1 1 Tryd.underlying46 hi0 hz0 hz1 hz2 rfl (by decide) (.slice A dn c) dn BC rfl (HO.out.alloc _) ⟨_, 0, none⟩ 1 1 [.int .u8 zn] rfl rfl (news1 _ _ _) (by simp [Value.oneCell']) (by unfold maxLen; omega) (by omega) (by simp; omega) ?_; intro v2 w5 hown2 hgrow2 _; obtain ⟨A2, c2, hv2, _⟩ := own_form hown2; subst hv2; have HO3 := Lib.hid hown2; have HB3 := Lib.hid ((HB.out.alloc hszw _).grown hgrow2 (by simp; omega) (fun j e => (HO.out.lt _ e).1)); clear hown2 hgrow2)))
        all_goals
          go_roundw
          case rel => exact ⟨rd, D2, A2, c2, by rw [hrb.out], by rw [HDZ.out], HUK2, Lib.hid (by rw [HDZ.out, HBC.out]; exact HO3.out), HB3⟩
          case measure => exact HSM.out
end Go.Proofs.YtkkhlmilcdlfoaaDoor
