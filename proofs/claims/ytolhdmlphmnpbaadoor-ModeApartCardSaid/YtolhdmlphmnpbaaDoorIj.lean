/- The walks of List and of the document's With. -/
import Derived.Test.YtolhdmlphmnpbaaDoorIh
import Derived.Test.YtolhdmlphmnpbaaDoorIi
import Derived.Laws.AppendOwn
namespace Go.Proofs.YtolhdmlphmnpbaaDoor
open Go.RowKit

def listK (f : Nat → Bool) (k : Nat) : List (List UInt8) := ((List.range k).filter f).map tx
theorem listK_yes (f : Nat → Bool) (k : Nat) (h : f k = true) : listK f (k + 1) = listK f k ++ [tx k] := by
  unfold listK
  rw [List.range_succ, List.filter_append, List.map_append]
  simp [h]
theorem listK_no (f : Nat → Bool) (k : Nat) (h : f k = false) : listK f (k + 1) = listK f k := by
  unfold listK
  rw [List.range_succ, List.filter_append, List.map_append]
  simp [h]
theorem listK_le (f : Nat → Bool) (k : Nat) : (listK f k).length ≤ k := by
  unfold listK
  rw [List.length_map]
  exact Nat.le_trans (List.length_filter_le _ _) (by simp)
theorem listL_le (f : Nat → Bool) : (listL f).length ≤ 18 := listK_le f 18
/-- A slice of one's own that reads as texts. -/
def StrsPost (L : List (List UInt8)) (w : World) (e : Ending) (w' : World) : Prop := ∃ v, e = .returned v ∧ w'.ownsRow w.heap.size 9 1 v L.length (L.map fun l => Value.string (bsB l)) ∧ Below w.heap.size w w'
theorem modes_i64 (k : Nat) (hk : k < 18) : -9223372036854775808 ≤ nM k ∧ nM k ≤ 9223372036854775807 := by
  rcases (by omega : k = 0 ∨ k = 1 ∨ k = 2 ∨ k = 3 ∨ k = 4 ∨ k = 5 ∨ k = 6 ∨ k = 7 ∨ k = 8 ∨ k = 9 ∨ k = 10 ∨ k = 11 ∨ k = 12 ∨ k = 13 ∨ k = 14 ∨ k = 15 ∨ k = 16 ∨ k = 17) with rfl | rfl | rfl | rfl | rfl | rfl | rfl | rfl | rfl | rfl | rfl | rfl | rfl | rfl | rfl | rfl | rfl | rfl <;> decide
/-- The set's box is no row of texts: append leaves it. -/
theorem set_grown {w2 w5 : World} {B g n : Nat} {f : Nat → Bool} {vo : Value} {xs : List Value} {o : Obj} (hy : w2.heap[g]? = some (.cells (sv f) 26 (0, 0))) (ho : w2.ownsRow B 9 1 vo n xs) (hg : (w2.alloc o).grownBy w5 vo.ownBlock) : w5.heap[g]? = some (.cells (sv f) 26 (0, 0)) := by
  have hlt := lt_of_block hy
  refine (hg.block g (by simp; omega) ?_).trans ((heap_alloc_old w2 o hlt).trans hy)
  intro e
  rcases ho.2 with ⟨rfl, _⟩ | ⟨g', cap, cur, rfl, _, hh, _⟩
  · simp [Value.ownBlock] at e
  · simp [Value.ownBlock] at e
    subst e
    rw [hh] at hy
    simp at hy
set_option maxRecDepth 100000 in
set_option maxHeartbeats 4000000 in
theorem list_any (f : Nat → Bool) (w : World) (hT : NT w) (hI : TI w) :
    Calls Tryd.prog 14 #[.agg (sv f)] w (StrsPost (listL f) w) := by
  obtain ⟨i0, hi, hz0, hz1, hz2⟩ := info_parts infoStr
  have HW := Lib.hid (belA (Below.refl w.heap.size w) (.cells (sv f) 26))
  have Y0 := Lib.hid (heap_alloc_new w (.cells (sv f) 26))
  have HI := Lib.hid hI
  obtain ⟨tt, fr, hL⟩ := hT.below HW.out
  clear hT hI
  unfold StrsPost
  go_enter Tryd.func14, Tryd.ntmps14
  go_wp2_with (refine wpList_load_row rfl 51 _ rfl 0 rfl tt namesV fr _ hL Tryd.underlying51 rfl (by kernel_rfl) ?_)
  clear hL
  go_loopw [3, 7] (fun v i wr => ∃ (k : Nat) (vo : Value), vo = v ∧ k ≤ 18 ∧ i = .int .i64 k ∧ Hid (wr.ownsRow w.heap.size 9 1 vo (listK f k).length ((listK f k).map fun l => Value.string (bsB l))) ∧ Hid (Below w.heap.size w wr) ∧ Hid (wr.heap[w.heap.size]? = some (.cells (sv f) 26 (0, 0)))) (fun _ i _ => 18 - (intOf i).toNat)
  case atStart => exact ⟨0, _, rfl, Nat.zero_le _, rfl, Lib.hid (World.ownsRow_nil _ _ _ _), HW, Y0⟩
  case round =>
    obtain ⟨k, vo, rfl, hkn, rfl, HO, HB, HY⟩ := hrel
    by_cases hlt : k < 18
    · have hki : (k : Int) < 18 := by omega
      have hix := index_mode k hlt
      have HBX := Lib.hid (belA HB.out (.cells #[.bool (pM k), .int .i64 (nM k)] 50))
      have HYX : Hid ((wr.alloc (.cells #[.bool (pM k), .int .i64 (nM k)] 50)).heap[w.heap.size]? = some (.cells (sv f) 26 (0, 0))) := Lib.hid ((heap_alloc_old wr _ (lt_of_block HY.out)).trans HY.out)
      have HOX : Hid ((wr.alloc (.cells #[.bool (pM k), .int .i64 (nM k)] 50)).ownsRow w.heap.size 9 1 vo (listK f k).length ((listK f k).map fun l => Value.string (bsB l))) := Lib.hid (own_past HO.out (belA (Below.refl _ _) _))
      have hcx := cell_of_row _ _ k _ _ _ HYX.out
      rw [sv_at f k hlt] at hcx
      have hle := listK_le f k
      have hsz := HB.out.size
      have hbd := modes_i64 k hlt
      have HC := Lib.hid (text_any (pM k) (nM k) hbd.1 hbd.2 _ (HI.out.below HBX.out))
      clear hbd
      cases hv : f k with
      | true =>
        rw [hv] at hcx
        have HX := Lib.hid (listK_yes f k hv)
        unfold tx at HX
        generalize pM k = a at *
        generalize nM k = b at *
        generalize textM a b = T at *
        generalize hL : listK f k = L at *
        clear hL hv HI
        go_wp2_with (first
          | (go_at_call 23; (with_reducible refine (HC.out).mono ?_); rintro e w2 ⟨rfl, hb⟩; have HB2 := Lib.hid (bel0 HBX.out hb); have HO2 := Lib.hid (own_past HOX.out hb); have HY2 := Lib.hid ((hb.block _ (lt_of_block HYX.out)).trans HYX.out); have hs2 := (bel0 HBX.out hb).size; clear hb)
          | (at_builtin; go_must (refine wpList_append_own _ rfl _ _ 28 rfl w.heap.size 9 i0 (.string ⟨#[]⟩) 1 16 Tryd.underlying28 hi hz0 hz1 hz2 rfl (by decide) vo L.length (L.map fun l => Value.string (bsB l)) rfl (HO2.out.alloc _) ⟨w2.heap.size, 0, none⟩ 1 1 [.string (bsB T)] rfl rfl (news1 w2 _ _) (by simp [Value.oneCell']) (by unfold maxLen; omega) (by omega) (by simp; omega) ?_; intro v2 w5 hown2 hgrow2 _; have HO5 := Lib.hid hown2; have HB5 := Lib.hid ((HB2.out.alloc hs2 _).grown hgrow2 (by simp; omega) (fun j e => (HO2.out.lt _ e).1)); have HY5 := Lib.hid (set_grown HY2.out HO2.out hgrow2); clear hown2 hgrow2)))
        go_roundw
        case rel => exact ⟨k + 1, v2, rfl, hlt, by go_num, by rw [HX.out, List.map_append, List.length_append]; exact HO5, HB5, HY5⟩
        case measure => simp [intOf]; omega
      | false =>
        rw [hv] at hcx
        have HX := Lib.hid (listK_no f k hv)
        generalize pM k = a at *
        generalize nM k = b at *
        clear hv HC HI
        go_wp2
        go_roundw
        case rel => exact ⟨k + 1, vo, rfl, hlt, by go_num, by rw [HX.out]; exact HOX, HBX, HYX⟩
        case measure => simp [intOf]; omega
    · obtain rfl : k = 18 := by omega
      go_wp2
      go_ret
      exact ⟨_, rfl, HO.out, HB.out⟩
end Go.Proofs.YtolhdmlphmnpbaaDoor
