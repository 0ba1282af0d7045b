/- The walk of strings.EqualFold at a file's beginning. Written by mkxe.py. -/
import Derived.Test.YtkkhlmilcdlfoaaDoorXc
import Derived.ScopeJumps
import Derived.WalkMore
import Derived.Laws.RangeAny
import Derived.Lib.OthersKept
namespace Go.Proofs.YtkkhlmilcdlfoaaDoor
open Go.RowKit

def lowF : List UInt8 := [102, 105, 108, 101, 58, 47, 47]
/-- Whether a byte is another one, or that in capitals. -/
def okF (c t : UInt8) : Bool := c == t || (decide (97 ≤ t.toNat) && decide (c.toNat + 32 = t.toNat))
def foldB (l : List UInt8) : Bool := (List.range 7).all fun k => okF (l.getD k 0) (lowF.getD k 0)
/-- What a byte below 128 folds to. -/
def foldT (k : Nat) : Nat := if 65 ≤ k ∧ k ≤ 90 then k + 32 else if k = 107 then 8490 else if k = 115 then 383 else if 97 ≤ k ∧ k ≤ 122 then k - 32 else k
/-- The table of folds is there. -/
def FT (w : World) : Prop := ∀ k : Nat, k < 128 → w.cell? ⟨3, k, none⟩ = some (.int .u16 (foldT k : Nat))
theorem FT.past {w w' : World} (h : FT w) (hb : Below w.heap.size w w') : FT w' := fun k hk => (hb.cell (p := ⟨3, k, none⟩) (Lib.lt_of_cell (h k hk))).trans (h k hk)
set_option maxRecDepth 100000 in
set_option maxHeartbeats 1000000 in
theorem simple_any (k : Nat) (hk : k < 128) (w : World) (hT : FT w) : Calls Tryd.prog 78 #[.int .i32 k] w fun e w' => e = .returned (.int .i32 (foldT k : Nat)) ∧ w' = w := by
  have hc := hT k hk
  have h1 : foldT k ≤ 8490 := by unfold foldT; split; omega; split; omega; split; omega; split <;> omega
  clear hT
  generalize foldT k = x at *
  go_enter Tryd.func78, Tryd.ntmps78
  go_wp2
  go_ret
  exact ⟨rfl, rfl⟩
set_option maxRecDepth 100000 in
set_option maxHeartbeats 1000000 in
theorem decode_ascii (c : UInt8) (r : List UInt8) (hc : c.toNat < 128) (w : World) : Calls Tryd.prog 77 #[.string (bsB (c :: r))] w fun e w' => e = .returned (.tuple #[.int .i32 c.toNat, .int .i64 1]) ∧ w' = w := by
  have i0 := idx0_bs c r
  have h1 : (1 : Int) ≤ (bsB (c :: r)).size := by rw [bsB_size]; simp; omega
  have he : (bsB (c :: r)).toList.isEmpty = false := by rw [bs_toList]; rfl
  generalize bsB (c :: r) = t at *
  generalize c.toNat = n at *
  go_enter Tryd.func77, Tryd.ntmps77
  go_wp2
  go_ret2
  exact ⟨rfl, rfl⟩
theorem or_cls : (lowF.all fun t => (List.range 256).all fun c => (decide (128 ≤ c) && decide (128 ≤ bits .or .u8 (c : Int) (t.toNat : Int))) || (decide (c < 128) && decide (bits .or .u8 (c : Int) (t.toNat : Int) < 128))) = true := by decide +kernel
theorem or_any (c t : UInt8) (ht : t ∈ lowF) : (128 ≤ c.toNat ∧ 128 ≤ bits .or .u8 (c.toNat : Int) (t.toNat : Int)) ∨ (c.toNat < 128 ∧ bits .or .u8 (c.toNat : Int) (t.toNat : Int) < 128) := by
  have h := List.all_eq_true.1 (List.all_eq_true.1 or_cls t ht) c.toNat (List.mem_range.2 c.toNat_lt)
  simpa using h
theorem lowF_cls (t : UInt8) (ht : t ∈ lowF) : t.toNat < 128 ∧ (97 ≤ t.toNat ∧ t.toNat ≤ 122 ∨ 47 ≤ t.toNat ∧ t.toNat ≤ 58) := by
  have h : (lowF.all fun t => decide (t.toNat < 128 ∧ (97 ≤ t.toNat ∧ t.toNat ≤ 122 ∨ 47 ≤ t.toNat ∧ t.toNat ≤ 58))) = true := by decide
  exact of_decide_eq_true (List.all_eq_true.1 h t ht)
theorem lowF_at (k : Nat) (h : k < 7) : lowF[k]? = some (lowF.getD k 0) ∧ lowF.getD k 0 ∈ lowF := by
  rcases (by omega : k = 0 ∨ k = 1 ∨ k = 2 ∨ k = 3 ∨ k = 4 ∨ k = 5 ∨ k = 6) with rfl | rfl | rfl | rfl | rfl | rfl | rfl <;> decide
theorem okF_yes {c t : UInt8} (h : c.toNat = t.toNat ∨ (97 ≤ t.toNat ∧ c.toNat + 32 = t.toNat)) : okF c t = true := by
  unfold okF
  rcases h with h | ⟨h, h'⟩
  · rw [beq_iff_eq.2 (UInt8.toNat_inj.1 h)]; rfl
  · rw [decide_eq_true h, decide_eq_true h']; simp
theorem okF_no {c t : UInt8} (h : c.toNat ≠ t.toNat) (h2 : t.toNat < 97 ∨ c.toNat + 32 ≠ t.toNat) : okF c t = false := by
  unfold okF
  rw [beq_false_of_ne (fun e => h (by rw [e]))]
  rcases h2 with h2 | h2
  · rw [decide_eq_false (show ¬ 97 ≤ t.toNat by omega)]; rfl
  · rw [decide_eq_false h2]; simp
theorem foldB_no (l : List UInt8) (k : Nat) (h : k < 7) (h2 : okF (l.getD k 0) (lowF.getD k 0) = false) : foldB l = false := by
  unfold foldB
  rw [List.all_eq_false]
  exact ⟨k, List.mem_range.2 h, by rw [h2]; decide⟩
theorem foldB_yes (l : List UInt8) (h : ∀ k, k < 7 → okF (l.getD k 0) (lowF.getD k 0) = true) : foldB l = true := by
  unfold foldB
  rw [List.all_eq_true]
  exact fun k hk => h k (List.mem_range.1 hk)
/-- How the text jumps to what is beyond ASCII. -/
def JP (l : List UInt8) (s : ByteArray) (w : World) (a : Act) (W : World) : Prop := W = w ∧ ∃ (i : Nat) (v : Nat → Value), a = ⟨#[.string s, .string ⟨#[102, 105, 108, 101, 58, 47, 47]⟩, v 2, v 3, v 4, .int .i64 (i : Nat), v 6, v 7, v 8, v 9, v 10, v 11, v 12, v 13, v 14, v 15, v 16, v 17, v 18, v 19, v 20, v 21, v 22, v 23, v 24, v 25, v 26, v 27, v 28, v 29, v 30, v 31, v 32, v 33, v 34, v 35, v 36, v 37, v 38, v 39, v 40, v 41, v 42, v 43, v 44, v 45, v 46, v 47, v 48, v 49, v 50, v 51, v 52, v 53, v 54, v 55, v 56, v 57, v 58, v 59, v 60, v 61, v 62, v 63, v 64, v 65, v 66, v 67, v 68, v 69, v 70, v 71, v 72, v 73, v 74, v 75, v 76, v 77, v 78, v 79, v 80, v 81, v 82, v 83, v 84, v 85, v 86, v 87, v 88, v 89, v 90, v 91, v 92, v 93, v 94, v 95, v 96, v 97, v 98, v 99, v 100, v 101, v 102, v 103, v 104, v 105, v 106, v 107, v 108, v 109, v 110, v 111, v 112, v 113, v 114, v 115, v 116, v 117, v 118, v 119, v 120, v 121, v 122], []⟩ ∧ i < 7 ∧ Hid (128 ≤ (l.getD i 0).toNat)
theorem JP.mk {l : List UInt8} {s : ByteArray} {w : World} {a : Act} {W : World} (h : W = w) (i : Nat) (h1 : a = ⟨#[.string s, .string ⟨#[102, 105, 108, 101, 58, 47, 47]⟩, a.tmps.getD 2 undef, a.tmps.getD 3 undef, a.tmps.getD 4 undef, .int .i64 (i : Nat), a.tmps.getD 6 undef, a.tmps.getD 7 undef, a.tmps.getD 8 undef, a.tmps.getD 9 undef, a.tmps.getD 10 undef, a.tmps.getD 11 undef, a.tmps.getD 12 undef, a.tmps.getD 13 undef, a.tmps.getD 14 undef, a.tmps.getD 15 undef, a.tmps.getD 16 undef, a.tmps.getD 17 undef, a.tmps.getD 18 undef, a.tmps.getD 19 undef, a.tmps.getD 20 undef, a.tmps.getD 21 undef, a.tmps.getD 22 undef, a.tmps.getD 23 undef, a.tmps.getD 24 undef, a.tmps.getD 25 undef, a.tmps.getD 26 undef, a.tmps.getD 27 undef, a.tmps.getD 28 undef, a.tmps.getD 29 undef, a.tmps.getD 30 undef, a.tmps.getD 31 undef, a.tmps.getD 32 undef, a.tmps.getD 33 undef, a.tmps.getD 34 undef, a.tmps.getD 35 undef, a.tmps.getD 36 undef, a.tmps.getD 37 undef, a.tmps.getD 38 undef, a.tmps.getD 39 undef, a.tmps.getD 40 undef, a.tmps.getD 41 undef, a.tmps.getD 42 undef, a.tmps.getD 43 undef, a.tmps.getD 44 undef, a.tmps.getD 45 undef, a.tmps.getD 46 undef, a.tmps.getD 47 undef, a.tmps.getD 48 undef, a.tmps.getD 49 undef, a.tmps.getD 50 undef, a.tmps.getD 51 undef, a.tmps.getD 52 undef, a.tmps.getD 53 undef, a.tmps.getD 54 undef, a.tmps.getD 55 undef, a.tmps.getD 56 undef, a.tmps.getD 57 undef, a.tmps.getD 58 undef, a.tmps.getD 59 undef, a.tmps.getD 60 undef, a.tmps.getD 61 undef, a.tmps.getD 62 undef, a.tmps.getD 63 undef, a.tmps.getD 64 undef, a.tmps.getD 65 undef, a.tmps.getD 66 undef, a.tmps.getD 67 undef, a.tmps.getD 68 undef, a.tmps.getD 69 undef, a.tmps.getD 70 undef, a.tmps.getD 71 undef, a.tmps.getD 72 undef, a.tmps.getD 73 undef, a.tmps.getD 74 undef, a.tmps.getD 75 undef, a.tmps.getD 76 undef, a.tmps.getD 77 undef, a.tmps.getD 78 undef, a.tmps.getD 79 undef, a.tmps.getD 80 undef, a.tmps.getD 81 undef, a.tmps.getD 82 undef, a.tmps.getD 83 undef, a.tmps.getD 84 undef, a.tmps.getD 85 undef, a.tmps.getD 86 undef, a.tmps.getD 87 undef, a.tmps.getD 88 undef, a.tmps.getD 89 undef, a.tmps.getD 90 undef, a.tmps.getD 91 undef, a.tmps.getD 92 undef, a.tmps.getD 93 undef, a.tmps.getD 94 undef, a.tmps.getD 95 undef, a.tmps.getD 96 undef, a.tmps.getD 97 undef, a.tmps.getD 98 undef, a.tmps.getD 99 undef, a.tmps.getD 100 undef, a.tmps.getD 101 undef, a.tmps.getD 102 undef, a.tmps.getD 103 undef, a.tmps.getD 104 undef, a.tmps.getD 105 undef, a.tmps.getD 106 undef, a.tmps.getD 107 undef, a.tmps.getD 108 undef, a.tmps.getD 109 undef, a.tmps.getD 110 undef, a.tmps.getD 111 undef, a.tmps.getD 112 undef, a.tmps.getD 113 undef, a.tmps.getD 114 undef, a.tmps.getD 115 undef, a.tmps.getD 116 undef, a.tmps.getD 117 undef, a.tmps.getD 118 undef, a.tmps.getD 119 undef, a.tmps.getD 120 undef, a.tmps.getD 121 undef, a.tmps.getD 122 undef], []⟩) (h2 : i < 7) (h3 : Hid (128 ≤ (l.getD i 0).toNat)) : JP l s w a W := ⟨h, i, fun k => a.tmps.getD k undef, h1, h2, h3⟩
set_option maxRecDepth 1000000 in
set_option maxHeartbeats 8000000 in
theorem fold_any (l : List UInt8) (hl : l.length = 7) (w : World) (hT : FT w) :
    Calls Tryd.prog 60 #[.string (bsB l), .string ⟨#[102, 105, 108, 101, 58, 47, 47]⟩] w fun e w' => e = .returned (.bool (foldB l)) ∧ Below w.heap.size w w' := by
  have hs : ((bsB l).size : Int) = 7 := by rw [bsB_size, hl]; rfl
  have HI1 : Hid (∀ k : Nat, k < 7 → ∀ W, (Instr.index 9 (.string (bsB l)) (.int .i64 k)).run Tryd.prog W = .ok (.int .u8 (l.getD k 0).toNat) W) := Lib.hid fun k hk => idx_bs l k _ (by rw [List.getD_eq_getElem?_getD, List.getElem?_eq_getElem (by omega)]; rfl)
  have HI2 : Hid (∀ k : Nat, k < 7 → ∀ W, (Instr.index 9 (.string ⟨#[102, 105, 108, 101, 58, 47, 47]⟩) (.int .i64 k)).run Tryd.prog W = .ok (.int .u8 (lowF.getD k 0).toNat) W) := Lib.hid fun k hk => idx_bs lowF k _ (lowF_at k hk).1
  obtain ⟨r, hr⟩ : ∃ r, r = foldB l := ⟨_, rfl⟩
  rw [← hr]
  have HNO : Hid (∀ k, k < 7 → okF (l.getD k 0) (lowF.getD k 0) = false → r = false) := Lib.hid fun k h h2 => by rw [hr]; exact foldB_no l k h h2
  have HYES : Hid ((∀ k, k < 7 → okF (l.getD k 0) (lowF.getD k 0) = true) → r = true) := Lib.hid fun h => by rw [hr]; exact foldB_yes l h
  have HLL := Lib.hid hl
  have HTT := Lib.hid hT
  have HSB : Hid (∀ k : Nat, (bsB l).extract k 7 = bsB (l.drop k)) := Lib.hid fun k => by rw [bs_extract, List.take_of_length_le (by simp; omega)]
  clear hr hl hT
  generalize bsB l = s at *
  go_enter Tryd.func60, Tryd.ntmps60
  go_wp2
  obtain ⟨QQ, hQQ⟩ : ∃ Q, Q = bodyPost Tryd.prog Tryd.f60 (fun e w' => e = .returned (.bool r) ∧ Below w.heap.size w w') := ⟨_, rfl⟩
  show Code.wp _ _ (bodyPost Tryd.prog Tryd.f60 (fun e w' => e = .returned (.bool r) ∧ Below w.heap.size w w')) _ _
  rw [← hQQ]
  replace hQQ := Lib.hid hQQ
  refine wp_scope_jumps 0 (JP l s w) (fun _ _ => 0) rfl ?_ ?_
  · go_wp2
    go_loopw [5] (fun q wr => ∃ i : Nat, q = .int .i64 i ∧ i ≤ 7 ∧ wr = w ∧ Hid (∀ k, k < i → okF (l.getD k 0) (lowF.getD k 0) = true)) (fun q _ => 7 - (intOf q).toNat)
    case atStart => exact ⟨0, rfl, by omega, rfl, Lib.hid (fun k hk => by omega)⟩
    case round =>
      obtain ⟨i, rfl, hi, rfl, HK⟩ := hrel
      by_cases hlt : i < 7
      · have j1 := HI1.out i hlt
        have j2 := HI2.out i hlt
        obtain ⟨ht1, ht2⟩ := lowF_cls _ (lowF_at i hlt).2
        have hor := or_any (l.getD i 0) _ (lowF_at i hlt).2
        have HNOi := Lib.hid (HNO.out i hlt)
        have HKi : Hid (okF (l.getD i 0) (lowF.getD i 0) = true → ∀ k, k < i + 1 → okF (l.getD k 0) (lowF.getD k 0) = true) := Lib.hid fun h k hk => by
          rcases (by omega : k < i ∨ k = i) with h1 | rfl
          · exact HK.out k h1
          · exact h
        generalize lowF.getD i 0 = t at *
        generalize hcc : l.getD i 0 = c at *
        have hcc := Lib.hid hcc
        have HY := Lib.hid (okF_yes (c := c) (t := t))
        have HN := Lib.hid (okF_no (c := c) (t := t))
        have hc8 : c.toNat < 256 := c.toNat_lt
        generalize hcn : c.toNat = cn at *
        generalize t.toNat = tn at *
        have HCN := Lib.hid hcn
        clear hcn
        obtain ⟨bo, hbo⟩ : ∃ bo, bits .or .u8 (cn : Int) (tn : Int) = bo := ⟨_, rfl⟩
        rw [hbo] at hor
        rcases hor with ⟨ha, hb⟩ | ⟨ha, hb⟩
        · have HA := Lib.hid ha
          clear ha
          have ha := HA.out
          clear ht2 HKi HNOi HK
          go_wp2
          refine wp_goto ?_
          simp only [Exit.then, Exit.inBlock]
          refine ⟨rfl, JP.mk rfl i rfl hlt ?_⟩
          exact Lib.hid (by rw [hcc.out, HCN.out]; exact HA.out)
        · have hno : cn = tn ∨ (cn < tn ∧ cn + 32 = tn ∧ 97 ≤ tn ∧ tn ≤ 122) ∨ (cn < tn ∧ (tn < 97 ∨ cn + 32 ≠ tn) ∧ cn < 65) ∨ (cn < tn ∧ (tn < 97 ∨ cn + 32 ≠ tn) ∧ 90 < cn) ∨ (cn < tn ∧ cn + 32 ≠ tn ∧ 65 ≤ cn ∧ cn ≤ 90) ∨ (tn < cn ∧ 97 ≤ tn) ∨ (tn < cn ∧ tn ≤ 58) := by omega
          clear ht2
          rcases hno with h1 | ⟨h1, h2, h3, h4⟩ | ⟨h1, h2, h3⟩ | ⟨h1, h2, h3⟩ | ⟨h1, h2, h3, h4⟩ | ⟨h1, h2⟩ | ⟨h1, h2⟩
          · have HK2 := Lib.hid (HKi.out (HY.out (.inl h1)))
            subst h1
            clear HKi HNOi HK
            go_wp2
            go_roundw
            case rel => exact ⟨i + 1, by go_num, hlt, by trivial, HK2⟩
            case measure => simp [intOf]; omega
          · have HK2 := Lib.hid (HKi.out (HY.out (.inr ⟨h3, h2⟩)))
            have hw : IntKind.u8.wrap (IntKind.u8.wrap ((cn : Int) + 97) - 65) = tn := by rw [IntKind.wrap_u8, IntKind.wrap_u8]; omega
            clear HKi HNOi HK
            go_wp2
            all_goals
              go_roundw
              case rel => exact ⟨i + 1, by go_num, hlt, by trivial, HK2⟩
              case measure => simp [intOf]; omega
          · have HR := Lib.hid (HNOi.out (HN.out (by omega) (by omega)))
            clear HKi HNOi HK
            go_wp2
            all_goals
              change QQ _ _ _
              rw [hQQ.out]
              go_ret
              exact ⟨by rw [HR.out]; rfl, Below.refl _ _⟩
          · have HR := Lib.hid (HNOi.out (HN.out (by omega) (by omega)))
            clear HKi HNOi HK
            go_wp2
            all_goals
              change QQ _ _ _
              rw [hQQ.out]
              go_ret
              exact ⟨by rw [HR.out]; rfl, Below.refl _ _⟩
          · have HR := Lib.hid (HNOi.out (HN.out (by omega) (by omega)))
            obtain ⟨z, hz⟩ : ∃ z : Nat, IntKind.u8.wrap (IntKind.u8.wrap ((cn : Int) + 97) - 65) = z ∧ z ≠ tn := ⟨cn + 32, by rw [IntKind.wrap_u8, IntKind.wrap_u8]; omega, by omega⟩
            obtain ⟨hz, hz2⟩ := hz
            clear HKi HNOi HK
            go_wp2
            all_goals
              change QQ _ _ _
              rw [hQQ.out]
              go_ret
              exact ⟨by rw [HR.out]; rfl, Below.refl _ _⟩
          · have HR := Lib.hid (HNOi.out (HN.out (by omega) (by omega)))
            clear HKi HNOi HK
            go_wp2
            all_goals
              change QQ _ _ _
              rw [hQQ.out]
              go_ret
              exact ⟨by rw [HR.out]; rfl, Below.refl _ _⟩
          · have HR := Lib.hid (HNOi.out (HN.out (by omega) (by omega)))
            clear HKi HNOi HK
            go_wp2
            all_goals
              change QQ _ _ _
              rw [hQQ.out]
              go_ret
              exact ⟨by rw [HR.out]; rfl, Below.refl _ _⟩
      · obtain rfl : i = 7 := by omega
        have HR := Lib.hid (HYES.out HK.out)
        go_wp2
        change QQ _ _ _
        rw [hQQ.out]
        go_ret
        exact ⟨by rw [HR.out]; rfl, Below.refl _ _⟩
  · intro a W hJ
    obtain ⟨rfl, i, v, rfl, hi, HC⟩ := hJ
    have HR := Lib.hid (HNO.out i hi (by
      have h1 := (lowF_cls _ (lowF_at i hi).2).1
      have h2 := HC.out
      exact okF_no (by omega) (by omega)))
    clear HNO HYES HI1 HI2
    have hx1 : s.extract i s.size = bsB (l.drop i) := by rw [show s.size = 7 by omega]; exact HSB.out i
    have hx2 : (⟨#[102, 105, 108, 101, 58, 47, 47]⟩ : ByteArray).extract i 7 = bsB (lowF.drop i) := by rw [show (⟨#[102, 105, 108, 101, 58, 47, 47]⟩ : ByteArray) = bsB lowF from rfl, bs_extract, List.take_of_length_le (by simp [lowF])]
    obtain ⟨c, rs, hcr, hcc⟩ : ∃ c rs, l.drop i = c :: rs ∧ 128 ≤ c.toNat := by
      have hli : i < l.length := by have := HLL.out; omega
      refine ⟨l[i], l.drop (i + 1), List.drop_eq_getElem_cons hli, ?_⟩
      have := HC.out
      rwa [List.getD_eq_getElem?_getD, List.getElem?_eq_getElem hli] at this
    obtain ⟨t, ts, htr, htc⟩ : ∃ t ts, lowF.drop i = t :: ts ∧ t ∈ lowF := by
      have hli : i < lowF.length := hi
      exact ⟨lowF[i], lowF.drop (i + 1), List.drop_eq_getElem_cons hli, List.getElem_mem hli⟩
    rw [hcr] at hx1
    rw [htr] at hx2
    obtain ⟨ht1, ht2⟩ := lowF_cls t htc
    have hf : foldT t.toNat < 128 ∧ foldT (foldT t.toNat) = t.toNat := by
      have h : (lowF.all fun t => decide (foldT t.toNat < 128 ∧ foldT (foldT t.toNat) = t.toNat)) = true := by decide
      exact of_decide_eq_true (List.all_eq_true.1 h t htc)
    obtain ⟨hf1, hf2⟩ := hf
    have hz0 : 0 < (bsB (c :: rs)).size := by rw [bsB_size]; simp
    have hdh := decode_high (bsB (c :: rs)) 0 hz0 hcc
    have hdl := decode_le (bsB (c :: rs)) 0
    have HNX : Hid (∀ ty, (Instr.next (.pointer (some ⟨W.heap.size, 0, none⟩)) true ty).run Tryd.prog (W.iter (bsB (c :: rs)) 0) = .ok (.tuple #[.bool true, .int .i64 (0 : Nat), .int .i32 (Utf8.decode (bsB (c :: rs)) 0).1]) (W.iter (bsB (c :: rs)) (0 + (Utf8.decode (bsB (c :: rs)) 0).2))) := Lib.hid fun ty => run_next_any W _ 0 ty hz0
    have HBI : ∀ p, Hid (Below W.heap.size W (W.iter (bsB (c :: rs)) p)) := fun p => Lib.hid ((Below.refl _ W).alloc (Nat.le_refl _) _)
    have HB2 := HBI (0 + (Utf8.decode (bsB (c :: rs)) 0).2)
    have HT2 := Lib.hid (HTT.out.past HB2.out)
    have HD : Hid (∀ W, Calls Tryd.prog 77 #[.string (bsB (t :: ts))] W fun e w' => e = .returned (.tuple #[.int .i32 t.toNat, .int .i64 1]) ∧ w' = W) := Lib.hid fun W => decode_ascii t ts ht1 W
    have h1t : (1 : Int) ≤ (bsB (t :: ts)).size := by rw [bsB_size]; simp; omega
    generalize W.iter (bsB (c :: rs)) (0 + (Utf8.decode (bsB (c :: rs)) 0).2) = W2 at *
    generalize (Utf8.decode (bsB (c :: rs)) 0).1 = R at *
    have hdh := hdh.1
    have HS1 : Hid (Calls Tryd.prog 78 #[.int .i32 t.toNat] W2 fun e w' => e = .returned (.int .i32 (foldT t.toNat : Nat)) ∧ w' = W2) := Lib.hid (simple_any _ ht1 W2 HT2.out)
    have HS2 : Hid (Calls Tryd.prog 78 #[.int .i32 (foldT t.toNat : Nat)] W2 fun e w' => e = .returned (.int .i32 t.toNat) ∧ w' = W2) := Lib.hid (by have h := simple_any _ hf1 W2 HT2.out; rw [hf2] at h; exact h)
    clear hcr htr htc HC HSB HLL HTT HT2 HBI hf2 ht2
    generalize bsB (c :: rs) = u at *
    generalize bsB (t :: ts) = t1 at *
    generalize foldT t.toNat = f at *
    generalize t.toNat = tn at *
    go_wp2
    generalize hWI : W.iter u 0 = WI at *
    go_loopw [1] (fun q wr => q = .string t1 ∧ wr = WI) (fun _ _ => 0)
    case atStart => exact ⟨rfl, rfl⟩
    case round =>
      obtain ⟨rfl, rfl⟩ := hrel
      have hnx := HNX.out
      go_wp2_with (first
        | (go_at_call 77; (with_reducible refine (HD.out _).mono ?_); rintro e w1 ⟨rfl, rfl⟩)
        | (go_at_call 78; (with_reducible refine (HS1.out).mono ?_); rintro e w1 ⟨rfl, rfl⟩))
      go_loopw [13] (fun q wr => (q = .int .i32 f ∨ q = .int .i32 tn) ∧ wr = w1) (fun q _ => if intOf q = tn then 0 else 1)
      case atStart => exact ⟨.inl rfl, rfl⟩
      case round =>
        obtain ⟨hq, rfl⟩ := hrel
        by_cases hft : f = tn
        · subst hft
          have hq : u13 = .int .i32 f := by rcases hq with h | h <;> exact h
          subst hq
          go_wp2
          all_goals
            change QQ _ _ _
            rw [hQQ.out]
            go_ret
            exact ⟨by rw [HR.out]; rfl, HB2.out⟩
        · rcases hq with rfl | rfl
          · have hne : ¬ (f : Int) = tn := by omega
            go_wp2_with (go_at_call 78; (with_reducible refine (HS2.out).mono ?_); rintro e w1 ⟨rfl, rfl⟩)
            · go_roundw
              case rel => exact ⟨.inr rfl, by trivial⟩
              case measure => simp [intOf, hne]
            all_goals
              change QQ _ _ _
              rw [hQQ.out]
              go_ret
              exact ⟨by rw [HR.out]; rfl, HB2.out⟩
          · go_wp2
            all_goals
              change QQ _ _ _
              rw [hQQ.out]
              go_ret
              exact ⟨by rw [HR.out]; rfl, HB2.out⟩
end Go.Proofs.YtkkhlmilcdlfoaaDoor
