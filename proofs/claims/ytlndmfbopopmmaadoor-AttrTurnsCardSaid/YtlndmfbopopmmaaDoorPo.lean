/- The walk of the reference's Clean. -/
import Derived.Test.YtlndmfbopopmmaaDoorPn
namespace Go.Proofs.YtlndmfbopopmmaaDoor
open Go.RowKit

/-- Rows that are done; their blocks lie below C. -/
structure OG (w : World) (B C : Nat) (v : Value) (L : List (List Int)) (vals : List Value) : Prop where
  own : w.ownsRow B 40 1 v L.length vals
  rw : RW w B C L vals
theorem OG.past {w w' : World} {B C : Nat} {v : Value} {L : List (List Int)} {vals : List Value} (h : OG w B C v L vals) (hb : Below w.heap.size w w') : OG w' B C v L vals := ⟨own_past h.own hb, h.rw.past hb⟩
/-- A row of numbers from C on has grown. -/
theorem OG.beside {w w5 : World} {B C : Nat} {v vg : Value} {L : List (List Int)} {vals : List Value} {n : Nat} {xs : List Value} (h : OG w B C v L vals) (hv : w.ownsRow C 3 1 vg n xs) (hg : w.grownBy w5 vg.ownBlock) : OG w5 B C v L vals :=
  ⟨h.own.kept hg (own_ne_type h.own hv ne_ii), h.rw.keptC hg (fun g e => (hv.lt g e).1)⟩
/-- A row is laid behind the others. -/
theorem OG.push {w w5 : World} {B C : Nat} {v v2 vg : Value} {L : List (List Int)} {vals : List Value} {xs : List Int} (h : OG w B C v L vals) (hBC : B ≤ C) (hv : w.ownsRow C 3 1 vg xs.length (xs.map (Value.int .i64))) (hg : w.grownBy w5 v.ownBlock) (h2 : w5.ownsRow B 40 1 v2 (L.length + 1) (vals ++ [vg])) : OG w5 B w5.heap.size v2 (L ++ [xs]) (vals ++ [vg]) := by
  have hr : RW w B w.heap.size L vals := ⟨h.rw.len, fun i hi => ⟨(h.rw.row i hi).1, fun b hb => ((h.rw.row i hi).1.lt b hb).2⟩⟩
  have hs := (hr.snoc (own_mono hv hBC) (fun b hb => (hv.lt b hb).2)).keptO h.own hg
  exact ⟨by rw [List.length_append]; exact h2, hs.mono hg.size⟩

set_option maxRecDepth 100000 in
set_option maxHeartbeats 8000000 in
theorem refClean_any (A : Option Addr) (l : List (List Int)) (n cp : Nat) (hn : n = l.length) (h1 : n ≤ 1000) (hrow : ∀ r ∈ l, r.length ≤ 1000) (w : World) (hR : RG w w.heap.size A l) :
    Calls Tryd.prog 12 #[.slice A n cp] w (RowsPost (cleanL l) w) := by
  obtain ⟨i0, hi0, hz0, hz1, hz2⟩ := info_parts Tryd.infoInt
  obtain ⟨i1, hi1, hy0, hy1, hy2⟩ := info_parts Tryd.infoInts
  have HN := Lib.hid hn
  have HR := Lib.hid hR
  have HROW := Lib.hid hrow
  clear hn hR hrow
  go_enter Tryd.func12, Tryd.ntmps12
  go_wp2
  go_loopw [3, 4] (fun v ii wr => ∃ (i : Nat) (vo : Value) (vals : List Value), vo = v ∧ i ≤ n ∧ i ≤ 32 ∧ ii = .int .i64 i ∧ Hid (OG wr w.heap.size wr.heap.size vo ((l.take i).map rowZ) vals) ∧ Hid (Below w.heap.size w wr)) (fun _ ii _ => n - (intOf ii).toNat)
  case atStart => exact ⟨0, _, [], rfl, Nat.zero_le _, Nat.zero_le _, rfl, Lib.hid ⟨World.ownsRow_nil _ _ _ _, RW.nil _ _ _⟩, Lib.hid (Below.refl _ _)⟩
  case round =>
    obtain ⟨i, vo, vals, rfl, hi, hi32, rfl, HG, HB⟩ := hrel
    by_cases hlt : i < n ∧ i < 32
    · obtain ⟨hlt1, hlt2⟩ := hlt
      have hii : (i : Int) < n := by omega
      have hdn : decide (i < n) = true := decide_eq_true hlt1
      have hii2 : (i : Int) < 32 := by omega
      have hil : i < l.length := by have := HN.out; omega
      obtain ⟨b, off, rfl, hbl, hcx⟩ := HR.out (fun e => by rw [e] at hil; simp at hil)
      obtain ⟨Ai, ci, hc0, hri, _⟩ := hcx i hil
      obtain ⟨D, hD⟩ : ∃ D, (l.take i).map rowZ = D := ⟨_, rfl⟩
      have HDL : Hid (D.length = i) := Lib.hid (by rw [← hD, List.length_map, List.length_take]; omega)
      have HDN : Hid ((l.take (i + 1)).map rowZ = D ++ [rowZ (l[i]?.getD [])]) := Lib.hid (by rw [take_snocL l i [] hil, List.map_append, hD]; rfl)
      have hr1 := HROW.out (l[i]?.getD []) (by rw [List.getElem?_eq_getElem hil]; exact List.getElem_mem hil)
      have HCK : Hid (∀ W, Below w.heap.size w W → W.cell? ⟨b, off + i, none⟩ = some (.slice Ai (l[i]?.getD []).length ci)) := Lib.hid fun W hW => (hW.cell (p := ⟨b, off + i, none⟩) hbl).trans hc0
      have HRI : Hid (∀ W, Below w.heap.size w W → RI W w.heap.size Ai (l[i]?.getD [])) := Lib.hid fun W hW => hri.below hW
      rw [hD] at HG
      obtain ⟨r, hr⟩ : ∃ r, l[i]?.getD [] = r := ⟨_, rfl⟩
      rw [hr] at HDN HCK HRI hr1
      have hsz := HB.out.size
      obtain ⟨C, hC⟩ : ∃ C, wr.heap.size = C := ⟨_, rfl⟩
      rw [hC] at HG hsz
      have HCW : Hid (C ≤ wr.heap.size) := Lib.hid (Nat.le_of_eq hC.symm)
      clear hD hr hc0 hri hcx hC
      obtain ⟨m, hm⟩ : ∃ m, r.length = m := ⟨_, rfl⟩
      have HML := Lib.hid hm
      rw [hm] at HCK hr1
      clear hm
      go_wp2
      go_loopw [5, 6] (fun gv kk wr => ∃ (k : Nat) (vg : Value), vg = gv ∧ k ≤ m ∧ k ≤ 8 ∧ kk = .int .i64 k ∧ Hid (OG wr w.heap.size C vo D vals) ∧ Hid (wr.ownsRow C 3 1 vg k (((r.take k).map clampV).map (Value.int .i64))) ∧ Hid (Below w.heap.size w wr) ∧ Hid (C ≤ wr.heap.size)) (fun _ kk _ => m - (intOf kk).toNat)
      case atStart => exact ⟨0, _, rfl, Nat.zero_le _, Nat.zero_le _, rfl, HG, Lib.hid (World.ownsRow_nil _ _ _ _), HB, HCW⟩
      case round =>
        clear HG HB HCW
        obtain ⟨k, vg, rfl, hk, hk8, rfl, HG, HO, HB, HCW⟩ := hrel
        have hck := HCK.out wr HB.out
        by_cases hkt : k < m ∧ k < 8
        · obtain ⟨hk1, hk2⟩ := hkt
          have hki : (k : Int) < m := by omega
          have hki2 : (k : Int) < 8 := by omega
          have hkd : decide (k < m) = true := decide_eq_true hk1
          have hkr : k < r.length := by have := HML.out; omega
          obtain ⟨br, offr, hAi, _, hcr⟩ := HRI.out wr HB.out (fun e => by rw [e] at hkr; simp at hkr)
          subst hAi
          have hckr := hcr k hkr
          have HPN : Hid (((r.take (k + 1)).map clampV).map (Value.int .i64) = ((r.take k).map clampV).map (Value.int .i64) ++ [.int .i64 (clampV (r[k]?.getD 0))]) := Lib.hid (by rw [take_snocL r k 0 hkr, List.map_append, List.map_append]; rfl)
          obtain ⟨x, hx⟩ : ∃ x, r[k]?.getD 0 = x := ⟨_, rfl⟩
          rw [hx] at hckr HPN
          obtain ⟨P, hP⟩ : ∃ P, ((r.take k).map clampV).map (Value.int .i64) = P := ⟨_, rfl⟩
          rw [hP] at HO HPN
          obtain ⟨y, hy⟩ : ∃ y, clampV x = y := ⟨_, rfl⟩
          have hcz := HCW.out
          have HST : Hid (∀ w5 : World, (wr.alloc (.cells #[.int .i64 y] 3)).grownBy w5 vg.ownBlock → OG w5 w.heap.size C vo D vals ∧ Below w.heap.size w w5 ∧ C ≤ w5.heap.size) := Lib.hid fun w5 hg => by
            refine ⟨(HG.out.past ((Below.refl wr.heap.size wr).alloc (Nat.le_refl _) _)).beside (HO.out.alloc _) hg, (belA HB.out _).grown hg (by simp; omega) (fun j e => by have := (HO.out.lt j e).1; omega), ?_⟩
            have := hg.size
            simp at this
            omega
          have hxy : (x < 0 ∧ y = -1) ∨ (¬ x < 0 ∧ ¬ 65535 < x ∧ x = y) ∨ (¬ x < 0 ∧ 65535 < x ∧ y = 65535) := by
            unfold clampV at hy
            omega
          rw [hy] at HPN
          clear hx hP hcr HRI HCK HML hy
          rcases hxy with ⟨h1, rfl⟩ | ⟨h1, h2, rfl⟩ | ⟨h1, h2, rfl⟩
          · have hd1 : decide (x < 0) = true := decide_eq_true h1
            go_wp2_with (at_builtin; go_must (refine wpList_append_own _ rfl _ _ 40 rfl C 3 i0 (.int .i64 0) 1 8 Tryd.underlying40 hi0 hz0 hz1 hz2 rfl (by decide) vg k P rfl (HO.out.alloc _) ⟨wr.heap.size, 0, none⟩ 1 1 [.int .i64 (-1)] rfl rfl (news1 wr _ _) (by simp [Value.oneCell']) (by unfold maxLen; omega) (by omega) (by simp; omega) ?_; intro v2 w5 hown2 hgrow2 _; obtain ⟨hg5, hb5, hz5⟩ := HST.out w5 hgrow2; have HG5 := Lib.hid hg5; have HO5 := Lib.hid hown2; have HB5 := Lib.hid hb5; have HZ5 := Lib.hid hz5; clear hown2 hgrow2 hg5 hb5 hz5))
            go_roundw
            case rel => exact ⟨k + 1, v2, rfl, hk1, hk2, by go_num, HG5, by rw [HPN.out]; exact HO5, HB5, HZ5⟩
            case measure => simp [intOf]; omega
          · have hd1 : decide (x < 0) = false := decide_eq_false h1
            have hd2 : decide (65535 < x) = false := decide_eq_false h2
            clear h1 h2
            go_wp2_with (at_builtin; go_must (refine wpList_append_own _ rfl _ _ 40 rfl C 3 i0 (.int .i64 0) 1 8 Tryd.underlying40 hi0 hz0 hz1 hz2 rfl (by decide) vg k P rfl (HO.out.alloc _) ⟨wr.heap.size, 0, none⟩ 1 1 [.int .i64 x] rfl rfl (news1 wr _ _) (by simp [Value.oneCell']) (by unfold maxLen; omega) (by omega) (by simp; omega) ?_; intro v2 w5 hown2 hgrow2 _; obtain ⟨hg5, hb5, hz5⟩ := HST.out w5 hgrow2; have HG5 := Lib.hid hg5; have HO5 := Lib.hid hown2; have HB5 := Lib.hid hb5; have HZ5 := Lib.hid hz5; clear hown2 hgrow2 hg5 hb5 hz5))
            go_roundw
            case rel => exact ⟨k + 1, v2, rfl, hk1, hk2, by go_num, HG5, by rw [HPN.out]; exact HO5, HB5, HZ5⟩
            case measure => simp [intOf]; omega
          · have hd1 : decide (x < 0) = false := decide_eq_false h1
            clear h1
            go_wp2_with (at_builtin; go_must (refine wpList_append_own _ rfl _ _ 40 rfl C 3 i0 (.int .i64 0) 1 8 Tryd.underlying40 hi0 hz0 hz1 hz2 rfl (by decide) vg k P rfl (HO.out.alloc _) ⟨wr.heap.size, 0, none⟩ 1 1 [.int .i64 65535] rfl rfl (news1 wr _ _) (by simp [Value.oneCell']) (by unfold maxLen; omega) (by omega) (by simp; omega) ?_; intro v2 w5 hown2 hgrow2 _; obtain ⟨hg5, hb5, hz5⟩ := HST.out w5 hgrow2; have HG5 := Lib.hid hg5; have HO5 := Lib.hid hown2; have HB5 := Lib.hid hb5; have HZ5 := Lib.hid hz5; clear hown2 hgrow2 hg5 hb5 hz5))
            go_roundw
            case rel => exact ⟨k + 1, v2, rfl, hk1, hk2, by go_num, HG5, by rw [HPN.out]; exact HO5, HB5, HZ5⟩
            case measure => simp [intOf]; omega
        · have hkd : (decide (k < m) = false) ∨ (decide (k < m) = true ∧ decide ((k : Int) < 8) = false) := by
            by_cases h : k < m
            · exact .inr ⟨decide_eq_true h, decide_eq_false (by omega)⟩
            · exact .inl (decide_eq_false h)
          have HKM : Hid (k = min m 8) := Lib.hid (by omega)
          have HROWE : Hid (((r.take k).map clampV).map (Value.int .i64) = if k = 0 then [] else (rowZ r).map (Value.int .i64)) := Lib.hid (by
            by_cases h0 : k = 0
            · rw [if_pos h0, h0]; rfl
            · rw [if_neg h0]
              have hre : r ≠ [] := fun e => h0 (by rw [HKM.out, ← HML.out, e]; rfl)
              unfold rowZ
              rw [if_neg hre, HKM.out, ← HML.out, Nat.min_comm, ← List.take_take, List.take_length])
          have HRL : Hid (0 < k → (rowZ r).length = k) := Lib.hid fun h0 => by
            have hre : r ≠ [] := fun e => by have := HKM.out; rw [← HML.out, e] at this; simp at this; omega
            unfold rowZ
            rw [if_neg hre, List.length_map, List.length_take, HKM.out, ← HML.out, Nat.min_comm]
          have HR0 : Hid (k = 0 → rowZ r = [-1]) := Lib.hid fun h0 => by
            have hre : r = [] := List.eq_nil_of_length_eq_zero (by have := HKM.out; have := HML.out; omega)
            rw [hre]; rfl
          rw [HROWE.out] at HO
          obtain ⟨ro, hro⟩ : ∃ ro, rowZ r = ro := ⟨_, rfl⟩
          rw [hro] at HO HRL HR0 HDN
          obtain ⟨Ao, co, hvo, _⟩ := own_form HG.out.own
          subst hvo
          have HPUSH : Hid (∀ (W w5 : World) (vg2 v2 : Value), OG W w.heap.size C (.slice Ao D.length co) D vals → W.ownsRow C 3 1 vg2 ro.length (ro.map (Value.int .i64)) → Below w.heap.size w W → W.grownBy w5 (Value.slice Ao D.length co).ownBlock → w5.ownsRow w.heap.size 40 1 v2 (D.length + 1) (vals ++ [vg2]) → OG w5 w.heap.size w5.heap.size v2 ((l.take (i + 1)).map rowZ) (vals ++ [vg2]) ∧ Below w.heap.size w w5) := Lib.hid fun W w5 vg2 v2 h1 h2 hb h3 h4 => by
            rw [HDN.out]
            exact ⟨h1.push hsz h2 h3 h4, hb.grown h3 hb.size (fun j e => (h1.own.lt j e).1)⟩
          have hdl : D.length ≤ 32 := by have := HDL.out; omega
          clear hkt HRI HCK HML HDL HROW
          by_cases hk0 : k = 0
          · have hro1 := HR0.out hk0
            subst hro1
            rw [if_pos hk0] at HO
            obtain ⟨Av, cv, hvg, _⟩ := own_form HO.out
            subst hvg
            subst hk0
            have hcz := HCW.out
            have HST : Hid (∀ w5 : World, (wr.alloc (.cells #[.int .i64 (-1)] 3)).grownBy w5 (Value.slice Av 0 cv).ownBlock → OG w5 w.heap.size C (.slice Ao D.length co) D vals ∧ Below w.heap.size w w5) := Lib.hid fun w5 hg =>
              ⟨(HG.out.past ((Below.refl wr.heap.size wr).alloc (Nat.le_refl _) _)).beside (HO.out.alloc _) hg, (belA HB.out _).grown hg (by simp; omega) (fun j e => by have := (HO.out.lt j e).1; omega)⟩
            have hm0 : m = 0 := by have := HKM.out; omega
            have hm1 : decide (0 < m) = false := decide_eq_false (by omega)
            have hm2 : decide ((0 : Int) < (m : Int)) = false := decide_eq_false (by omega)
            clear HR0 HRL HDN HROWE HKM hm0 hkd
            have tok1 : True := trivial
            go_wp2_with (first
              | (at_builtin; have _t := tok1; (refine wpList_append_own _ rfl _ _ 40 rfl C 3 i0 (.int .i64 0) 1 8 Tryd.underlying40 hi0 hz0 hz1 hz2 rfl (by decide) (.slice Av 0 cv) 0 [] rfl (HO.out.alloc _) ⟨wr.heap.size, 0, none⟩ 1 1 [.int .i64 (-1)] rfl rfl (news1 wr _ _) (by simp [Value.oneCell']) (by unfold maxLen; omega) (by omega) (by simp; omega) ?_; intro v2 w5 hown2 hgrow2 _; obtain ⟨A5, c5, rfl, _⟩ := own_form hown2; obtain ⟨hg5, hb5⟩ := HST.out w5 hgrow2; have HG5 := Lib.hid hg5; have HO5 := Lib.hid hown2; have HB5 := Lib.hid hb5; clear tok1 _t hown2 hgrow2 hg5 hb5))
              | (at_builtin; (refine wpList_append_own _ rfl _ _ 28 rfl w.heap.size 40 i1 (.slice none 0 0) 1 24 Tryd.underlying28 hi1 hy0 hy1 hy2 rfl (by decide) (.slice Ao D.length co) D.length vals rfl (HG5.out.own.alloc _) ⟨w5.heap.size, 0, none⟩ 1 1 [.slice A5 (0 + 1) c5] rfl rfl (news1 w5 _ _) (by simp [Value.oneCell']) (by unfold maxLen; omega) (by omega) (by have := HB5.out.size; simp; omega) ?_; intro v7 w7 hown7 hgrow7 _; have HF := Lib.hid (HPUSH.out (w5.alloc (.cells #[.slice A5 (0 + 1) c5] 40)) w7 _ v7 (HG5.out.past ((Below.refl _ _).alloc (Nat.le_refl _) _)) (HO5.out.alloc _) (belA HB5.out _) hgrow7 hown7); clear hown7 hgrow7)))
            go_roundw
            case rel => exact ⟨i + 1, v7, _, rfl, hlt1, hlt2, by go_num, Lib.hid HF.out.1, Lib.hid HF.out.2⟩
            case measure => simp [intOf]; omega
          · have hkpos : 0 < k := by omega
            have hrl := HRL.out hkpos
            rw [if_neg hk0] at HO
            obtain ⟨Av, cv, hvg, _⟩ := own_form HO.out
            subst hvg
            have HOR : Hid (wr.ownsRow C 3 1 (.slice Av k cv) ro.length (ro.map (Value.int .i64))) := Lib.hid (by rw [hrl]; exact HO.out)
            have hkb : ((k : Int) == 0) = false := by rw [beq_eq_false_iff_ne]; omega
            have hbz := HB.out.size
            clear HR0 HRL HDN HROWE HKM HO hrl hk0
            rcases hkd with hkd | ⟨hkd, hkd2⟩
            all_goals
              go_wp2_with (at_builtin; (refine wpList_append_own _ rfl _ _ 28 rfl w.heap.size 40 i1 (.slice none 0 0) 1 24 Tryd.underlying28 hi1 hy0 hy1 hy2 rfl (by decide) (.slice Ao D.length co) D.length vals rfl (HG.out.own.alloc _) ⟨wr.heap.size, 0, none⟩ 1 1 [.slice Av k cv] rfl rfl (news1 wr _ _) (by simp [Value.oneCell']) (by unfold maxLen; omega) (by omega) (by simp; omega) ?_; intro v7 w7 hown7 hgrow7 _; have HF := Lib.hid (HPUSH.out (wr.alloc (.cells #[.slice Av k cv] 40)) w7 _ v7 (HG.out.past ((Below.refl _ _).alloc (Nat.le_refl _) _)) (HOR.out.alloc _) (belA HB.out _) hgrow7 hown7); clear hown7 hgrow7))
              go_roundw
              case rel => exact ⟨i + 1, v7, _, rfl, hlt1, hlt2, by go_num, Lib.hid HF.out.1, Lib.hid HF.out.2⟩
              case measure => simp [intOf]; omega
    · have hid : (decide (i < n) = false) ∨ (decide (i < n) = true ∧ decide ((i : Int) < 32) = false) := by
        by_cases h : i < n
        · exact .inr ⟨decide_eq_true h, decide_eq_false (by omega)⟩
        · exact .inl (decide_eq_false h)
      have hsz := HB.out.size
      by_cases hi0 : i = 0
      · have hn0 : n = 0 := by omega
        have hl : l = [] := List.eq_nil_of_length_eq_zero (by have := HN.out; omega)
        have HE : Hid (cleanL l = [[-1]]) := Lib.hid (by rw [hl]; rfl)
        subst hi0
        have hD : (l.take 0).map rowZ = [] := by simp
        rw [hD] at HG
        obtain ⟨Ao, co, hvo, _⟩ := own_form HG.out.own
        subst hvo
        have hvals : vals = [] := List.eq_nil_of_length_eq_zero HG.out.rw.len
        subst hvals
        have HLAST : Hid (∀ w7 v7, ((wr.alloc (.cells #[.int .i64 (-1)] 3)).alloc (.cells #[.slice (some ⟨wr.heap.size, 0, none⟩) 1 1] 40)).grownBy w7 (Value.slice Ao 0 co).ownBlock → w7.ownsRow w.heap.size 40 1 v7 1 [.slice (some ⟨wr.heap.size, 0, none⟩) 1 1] → ∃ A c, v7 = .slice A (cleanL l).length c ∧ (cleanL l).length ≤ c ∧ RG w7 w7.heap.size A (cleanL l) ∧ Below w.heap.size w w7) := Lib.hid fun w7 v7 hg h2 => by
          have hp : Below wr.heap.size wr ((wr.alloc (.cells #[.int .i64 (-1)] 3)).alloc (.cells #[.slice (some ⟨wr.heap.size, 0, none⟩) 1 1] 40)) := belA (belA (Below.refl _ _) _) _
          have hrow := (World.ownsRow_lit (e := 3) (size := 1) wr #[.int .i64 (-1)] 1 (Nat.le_refl _) (by unfold maxLen; omega) rfl).alloc (.cells #[.slice (some ⟨wr.heap.size, 0, none⟩) 1 1] 40)
          have h := (HG.out.past hp).push (vg := .slice (some ⟨wr.heap.size, 0, none⟩) 1 1) (xs := [-1]) hsz hrow hg h2
          obtain ⟨A, c, hv, _⟩ := own_form h.own
          subst hv
          rw [HE.out]
          exact ⟨A, c, rfl, own_cap h.own, RG.of_rows h.own rfl h.rw, (belA (belA HB.out _) _).grown hg (by simp; omega) (fun j e => (HG.out.own.lt j e).1)⟩
        have hd1 : decide (0 < n) = false := decide_eq_false (by omega)
        have hd2 : decide ((0 : Int) < (n : Int)) = false := decide_eq_false (by omega)
        have HOO := Lib.hid ((HG.out.own.alloc (.cells #[.int .i64 (-1)] 3)).alloc (.cells #[.slice (some ⟨wr.heap.size, 0, none⟩) 1 1] 40))
        have HNW := Lib.hid (news2 wr (.cells #[.int .i64 (-1)] 3) (.slice (some ⟨wr.heap.size, 0, none⟩) 1 1) 40)
        clear hl hn0 hD HG HB hid hlt HE
        unfold RowsPost
        go_wp2_with (at_builtin; go_must (refine wpList_append_own _ rfl _ _ 28 rfl w.heap.size 40 i1 (.slice none 0 0) 1 24 Tryd.underlying28 hi1 hy0 hy1 hy2 rfl (by decide) (.slice Ao 0 co) 0 [] rfl HOO.out ⟨wr.heap.size + 1, 0, none⟩ 1 1 [.slice (some ⟨wr.heap.size, 0, none⟩) 1 1] rfl rfl HNW.out (by simp [Value.oneCell']) (by unfold maxLen; omega) (by omega) (by simp; omega) ?_; intro v7 w7 hown7 hgrow7 _; obtain ⟨A7, c7, hv7, hcp7, hr7, hb7⟩ := HLAST.out w7 v7 hgrow7 hown7; have HR7 := Lib.hid hr7; have HB7 := Lib.hid hb7; have HV7 := Lib.hid hv7; clear hown7 hgrow7 hr7 hb7 hv7))
        go_ret
        exact ⟨A7, c7, by rw [← HV7.out]; rfl, hcp7, HR7.out, HB7.out⟩
      · have hipos : 0 < i := by omega
        have HE : Hid ((l.take i).map rowZ = cleanL l ∧ (cleanL l).length = i) := Lib.hid (by
          have hne : l ≠ [] := fun e => by have := HN.out; rw [e] at this; simp at this; omega
          have e : (l.take i).map rowZ = cleanL l := by
            unfold cleanL
            rw [if_neg hne, show i = min l.length 32 by rw [← HN.out]; omega, Nat.min_comm, ← List.take_take, List.take_length]
          exact ⟨e, by rw [← e, List.length_map, List.length_take, ← HN.out]; omega⟩)
        have HF : Hid (∃ A c, vo = .slice A i c ∧ i ≤ c ∧ RG wr wr.heap.size A (cleanL l)) := Lib.hid (by
          have h := HG.out
          rw [HE.out.1] at h
          obtain ⟨A, c, hv, _⟩ := own_form h.own
          have ho := h.own
          subst hv
          rw [HE.out.2] at ho ⊢
          exact ⟨A, c, rfl, own_cap ho, RG.of_rows ho HE.out.2.symm h.rw⟩)
        obtain ⟨A, c, hv, hic, hrg⟩ := HF.out
        subst hv
        have HRG := Lib.hid hrg
        have hib : ((i : Int) == 0) = false := by rw [beq_eq_false_iff_ne]; omega
        clear HG HF hrg hlt hi0
        unfold RowsPost
        rcases hid with hd | ⟨hd, hd2⟩
        all_goals
          go_wp2
          go_ret
          exact ⟨A, c, by rw [HE.out.2]; rfl, by rw [HE.out.2]; exact hic, HRG.out, HB.out⟩

end Go.Proofs.YtlndmfbopopmmaaDoor
