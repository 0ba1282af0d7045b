/- Stops of the tabulator: List; the document's Size, First, With, List. -/
import Derived.Test.YtabipecpkbjdkaaTb
import Derived.Test.YtabipecpkbjdkaaKi
namespace Go.Proofs.Ytabipecpkbjdkaa
open Go.RowKit

def idxK (l : List Bool) (k : Nat) : List Int := ((List.range k).filter fun x => l[x]?.getD false).map Int.ofNat
theorem idxK_yes (l : List Bool) (k : Nat) (h : l[k]?.getD false = true) : idxK l (k + 1) = idxK l k ++ [(k : Int)] := by
  unfold idxK
  rw [List.range_succ, List.filter_append, List.map_append]
  simp [h]
theorem idxK_no (l : List Bool) (k : Nat) (h : l[k]?.getD false = false) : idxK l (k + 1) = idxK l k := by
  unfold idxK
  rw [List.range_succ, List.filter_append, List.map_append]
  simp [h]
theorem idxK_le (l : List Bool) (k : Nat) : (idxK l k).length ≤ k := by
  unfold idxK
  rw [List.length_map]
  exact Nat.le_trans (List.length_filter_le _ _) (by simp)
def idxL (l : List Bool) : List Int := idxK l l.length
/-- A slice of one's own that reads as numbers. -/
def IntsPost (L : List Int) (w : World) (e : Ending) (w' : World) : Prop := ∃ v, e = .returned v ∧ w'.ownsRow w.heap.size 3 1 v L.length (L.map (Value.int .i64)) ∧ Below w.heap.size w w'

set_option maxHeartbeats 1000000 in
theorem list_any (s b : Nat) (l : List Bool) (w : World) (h : SS w s b l) :
    Calls Try.prog 19 #[.pointer (some ⟨s, 0, none⟩)] w (IntsPost (idxL l) w) := by
  obtain ⟨i0, hi, hz0, hz1, hz2⟩ := info_parts Try.infoInt
  have HC : Hid (Calls Try.prog 17 #[.pointer (some ⟨s, 0, none⟩)] w fun e w' => e = .returned (.int .i64 l.length) ∧ w = w') := Lib.hid (cols_any s b l w h)
  have HS := Lib.hid h
  have hhi := h.hi
  clear h
  unfold IntsPost
  generalize hn : l.length = n at *
  have HN := Lib.hid hn
  clear hn
  go_enter Try.func19, Try.ntmps19
  go_wp2_with (go_at_call 17; (with_reducible refine HC.out.mono ?_); rintro e w' ⟨rfl, rfl⟩)
  go_loopw [3, 7] (fun v i wr => ∃ (k : Nat) (vo : Value), vo = v ∧ k ≤ n ∧ i = .int .i64 k ∧ Hid (wr.ownsRow w.heap.size 3 1 vo (idxK l k).length ((idxK l k).map (Value.int .i64))) ∧ Hid (Below w.heap.size w wr)) (fun _ i _ => n - (intOf i).toNat)
  case atStart => exact ⟨0, _, rfl, Nat.zero_le _, rfl, Lib.hid (World.ownsRow_nil _ _ _ _), Lib.hid (Below.refl _ _)⟩
  case round =>
    obtain ⟨k, vo, rfl, hkn, rfl, HO, HB⟩ := hrel
    by_cases hlt : k < n
    · have hS := HS.out.past HB.out
      have hc0 := hS.c0
      rw [HN.out] at hc0
      have hcx := hS.cx k (by rw [HN.out]; exact hlt)
      have hki : (k : Int) < n := by omega
      have hle := idxK_le l k
      have hsz := HB.out.size
      by_cases hv : l[k]?.getD false = true
      · have HX := Lib.hid (idxK_yes l k hv)
        rw [hv] at hcx
        clear hS hv HS HN HC
        generalize hL : idxK l k = L at *
        clear hL
        go_wp2_with (at_builtin; go_must (refine wpList_append_own _ rfl _ _ 39 rfl w.heap.size 3 i0 (.int .i64 0) 1 8 Try.underlying39 hi hz0 hz1 hz2 rfl (by decide) vo L.length (L.map (Value.int .i64)) rfl (HO.out.alloc _) ⟨wr.heap.size, 0, none⟩ 1 1 [.int .i64 k] rfl rfl (news1 wr _ _) (by simp [Value.oneCell']) (by unfold maxLen; omega) (by omega) (by simp; omega) ?_; intro v2 w5 hown2 hgrow2 _; have HO2 := Lib.hid hown2; have HB5 := Lib.hid ((HB.out.alloc hsz _).grown hgrow2 (by simp; omega) (fun j e => (HO.out.lt _ e).1)); clear hown2 hgrow2))
        go_roundw
        case rel => exact ⟨k + 1, v2, rfl, hlt, by go_num, by rw [HX.out, List.map_append, List.length_append]; exact HO2, HB5⟩
        case measure => simp [intOf]; omega
      · have hv' : l[k]?.getD false = false := by simpa using hv
        have HX := Lib.hid (idxK_no l k hv')
        rw [hv'] at hcx
        clear hS hv hv' HS HN HC
        go_wp2
        go_roundw
        case rel => exact ⟨k + 1, vo, rfl, hlt, by go_num, by rw [HX.out]; exact HO, HB⟩
        case measure => simp [intOf]; omega
    · obtain rfl : k = n := by omega
      have HE : Hid (idxK l k = idxL l) := Lib.hid (by unfold idxL; rw [HN.out])
      clear HS HN HC
      go_wp2
      go_ret
      refine ⟨_, rfl, ?_, HB.out⟩
      rw [← HE.out]
      exact HO.out
theorem list_nil (w : World) :
    Calls Try.prog 19 #[.pointer none] w fun e w' => e = .returned (.slice none 0 0) ∧ w = w' := by
  go_enter Try.func19, Try.ntmps19
  go_wp2_with (go_at_call 17; (with_reducible refine (cols_nil _).mono ?_); rintro e w' ⟨rfl, rfl⟩)
  refine wp_loop_rounds 1 ?_
  rw [rounds_succ]
  go_wp2
  go_ret
  exact ⟨rfl, rfl⟩

/-- The document's stops: a slice of columns, of the call's own. -/
def BS (w : World) (B : Nat) (v : Value) (l : List Bool) : Prop := w.ownsRow B 4 1 v l.length (l.map Value.bool)
def BoolsPost (l : List Bool) (w : World) (e : Ending) (w' : World) : Prop := ∃ v, e = .returned v ∧ BS w' w.heap.size v l ∧ Below w.heap.size w w'
/-- A slice that reads as columns; it lies below block B. -/
def RB (w : World) (B : Nat) (A : Option Addr) (xs : List Bool) : Prop :=
  xs ≠ [] → ∃ b, A = some ⟨b, 0, none⟩ ∧ b < B ∧ ∀ k, k < xs.length → w.cell? ⟨b, k, none⟩ = some (.bool (xs[k]?.getD false))
theorem RB.below {w w' : World} {B : Nat} {A : Option Addr} {xs : List Bool} (h : RB w B A xs) (hb : Below B w w') : RB w' B A xs := fun hn => by
  obtain ⟨b, e, hlt, hc⟩ := h hn
  exact ⟨b, e, hlt, fun k hk => (hb.cell (p := ⟨b, k, none⟩) hlt).trans (hc k hk)⟩
theorem BS.form {w : World} {B : Nat} {v : Value} {l : List Bool} (h : BS w B v l) : ∃ A c, v = .slice A l.length c ∧ RB w w.heap.size A l := by
  obtain ⟨A, c, rfl, hA⟩ := own_form h
  refine ⟨A, c, rfl, fun hn => ?_⟩
  obtain ⟨g, rfl⟩ := hA (List.length_pos_iff.2 hn)
  refine ⟨g, rfl, (World.ownsRow.lt h g rfl).2, fun k hk => ?_⟩
  rw [World.ownsRow.cellAt h k (by omega)]
  simp [hk]

set_option maxHeartbeats 1000000 in
theorem refSize_any (A : Option Addr) (l : List Bool) (n cp c : Nat) (hn : n = l.length) (hc : c ≤ 1000) (w : World) (hR : RB w w.heap.size A l) :
    Calls Try.prog 16 #[.slice A n cp, .int .i64 c] w (BoolsPost (resL l c) w) := by
  obtain ⟨i0, hi, hz0, hz1, hz2⟩ := info_parts Try.infoBool
  have HR := Lib.hid hR
  have HN := Lib.hid hn
  have HL := Lib.hid (resL_len l c)
  clear hR hn
  unfold BoolsPost BS
  rw [HL.out]
  go_enter Try.func16, Try.ntmps16
  go_wp2
  go_loopw [5, 6] (fun v i wr => ∃ (k : Nat) (vo : Value), vo = v ∧ k ≤ c ∧ i = .int .i64 k ∧ Hid (wr.ownsRow w.heap.size 4 1 vo k ((resL l k).map Value.bool)) ∧ Hid (Below w.heap.size w wr)) (fun _ i _ => c - (intOf i).toNat)
  case atStart => exact ⟨0, _, rfl, Nat.zero_le _, rfl, Lib.hid (World.ownsRow_nil _ _ _ _), Lib.hid (Below.refl _ _)⟩
  case round =>
    obtain ⟨k, vo, rfl, hkn, rfl, HO, HB⟩ := hrel
    by_cases hlt : k < c
    · have hki : (k : Int) < c := by omega
      have hsz := HB.out.size
      have HX : Hid ((resL l (k + 1)).map Value.bool = (resL l k).map Value.bool ++ [.bool (tgtB l k)]) := Lib.hid (by simp [resL, List.range_succ])
      by_cases hx : k < n
      · obtain ⟨b, rfl, hbl, hcx⟩ := HR.out (fun e => by have := HN.out; rw [e] at this; simp at this; omega)
        have hck := (HB.out.cell (p := ⟨b, k, none⟩) hbl).trans (hcx k (by rw [← HN.out]; exact hx))
        have HT : Hid (tgtB l k = l[k]?.getD false) := Lib.hid (by unfold tgtB; rw [if_pos (by rw [← HN.out]; exact hx)])
        have hxi : (k : Int) < n := by omega
        rw [← HT.out] at hck
        clear hcx hbl HT HR HN
        generalize tgtB l k = t at *
        generalize hL : (resL l k).map Value.bool = L at *
        clear hL
        go_wp2_with (at_builtin; go_must (refine wpList_append_own _ rfl _ _ 30 rfl w.heap.size 4 i0 (.bool false) 1 1 Try.underlying30 hi hz0 hz1 hz2 rfl (by decide) vo k L rfl (HO.out.alloc _) ⟨wr.heap.size, 0, none⟩ 1 1 [.bool t] rfl rfl (news1 wr _ _) (by simp [Value.oneCell']) (by unfold maxLen; omega) (by omega) (by simp; omega) ?_; intro v2 w5 hown2 hgrow2 _; have HO2 := Lib.hid hown2; have HB5 := Lib.hid ((HB.out.alloc hsz _).grown hgrow2 (by simp; omega) (fun j e => (HO.out.lt _ e).1)); clear hown2 hgrow2))
        go_roundw
        case rel => exact ⟨k + 1, v2, rfl, hlt, by go_num, by rw [HX.out]; exact HO2, HB5⟩
        case measure => simp [intOf]; omega
      · have HT : Hid (tgtB l k = ((k : Int) % 8 == 0)) := Lib.hid (by
          unfold tgtB
          rw [if_neg (by rw [← HN.out]; exact hx), Bool.eq_iff_iff]
          simp
          omega)
        rw [HT.out] at HX
        have hxi : ¬ k < n := hx
        have hxd : decide (k < n) = false := decide_eq_false hxi
        clear HT HR HN hx hxi
        generalize hL : (resL l k).map Value.bool = L at *
        clear hL
        go_wp2_with (at_builtin; go_must (refine wpList_append_own _ rfl _ _ 30 rfl w.heap.size 4 i0 (.bool false) 1 1 Try.underlying30 hi hz0 hz1 hz2 rfl (by decide) vo k L rfl (HO.out.alloc _) ⟨wr.heap.size, 0, none⟩ 1 1 [.bool ((k : Int) % 8 == 0)] rfl rfl (news1 wr _ _) (by simp [Value.oneCell']) (by unfold maxLen; omega) (by omega) (by simp; omega) ?_; intro v2 w5 hown2 hgrow2 _; have HO2 := Lib.hid hown2; have HB5 := Lib.hid ((HB.out.alloc hsz _).grown hgrow2 (by simp; omega) (fun j e => (HO.out.lt _ e).1)); clear hown2 hgrow2))
        go_roundw
        case rel => exact ⟨k + 1, v2, rfl, hlt, by go_num, by rw [HX.out]; exact HO2, HB5⟩
        case measure => simp [intOf]; omega
    · obtain rfl : k = c := by omega
      go_wp2
      go_ret
      exact ⟨_, rfl, HO.out, HB.out⟩
theorem first_any (c : Nat) (hc : c ≤ 1000) (w : World) :
    Calls Try.prog 10 #[.int .i64 c] w (BoolsPost (resL [] c) w) := by
  have HR : Hid (∀ W A, Calls Try.prog 16 #[.slice A 0 0, .int .i64 c] W (BoolsPost (resL [] c) W)) := Lib.hid fun W A => refSize_any A [] 0 0 c rfl hc W (fun h => absurd rfl h)
  clear hc
  unfold BoolsPost
  go_enter Try.func10, Try.ntmps10
  go_wp2_with (go_at_call 16; (with_reducible refine (HR.out _ _).mono ?_); rintro e w2 ⟨v, rfl, hv, hb⟩; have HV := Lib.hid hv; have HB := Lib.hid hb; clear hv hb)
  go_ret
  exact ⟨_, rfl, own_mono HV.out (by simp), bel1 (Below.refl _ w) HB.out⟩

end Go.Proofs.Ytabipecpkbjdkaa
