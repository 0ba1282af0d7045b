/- The walks of Is, Known, New. -/
import Derived.Test.YtolhdmlphmnpbaaDoorIc
namespace Go.Proofs.YtolhdmlphmnpbaaDoor
open Go.RowKit

def isS (f : Nat → Bool) (z : Int) : Bool := decide (0 ≤ z) && f z.toNat
theorem one_box {w w1 : World} {f : Nat → Bool} (hb : Below (w.alloc (.cells (sv f) 26)).heap.size (w.alloc (.cells (sv f) 26)) w1) (k : Nat) (hk : k < 18) : w1.cell? ⟨w.heap.size, k, none⟩ = some (.bool (f k)) := by
  have y : w1.heap[w.heap.size]? = some (.cells (sv f) 26 (0, 0)) := (hb.block _ (by simp)).trans (heap_alloc_new w _)
  rw [cell_of_row _ _ k _ _ _ y, sv_at f k hk]
set_option maxRecDepth 100000 in
set_option maxHeartbeats 4000000 in
theorem is_any (f : Nat → Bool) (p : Bool) (n : Int) (w : World) (hT : NT w) :
    Calls Tryd.prog 15 #[.agg (sv f), .bool p, .int .i64 n] w fun e w' => e = .returned (.bool (isS f (placeZ p n))) ∧ Below w.heap.size w w' := by
  have HW := Lib.hid (belA (Below.refl w.heap.size w) (.cells (sv f) 26))
  have HC := Lib.hid (place_any p n (w.alloc (.cells (sv f) 26)) (hT.below HW.out))
  clear hT
  rcases posQ_cases (fun k => pM k == p && nM k == n) with ⟨k, hk, _, hq, _⟩ | ⟨hq, _⟩
  · change placeZ p n = k at hq
    rw [hq] at HC ⊢
    clear hq
    have hki : (k : Int) < 18 := by omega
    have HI : Hid (isS f k = f k) := Lib.hid (by simp [isS])
    go_enter Tryd.func15, Tryd.ntmps15
    go_wp2_with (go_at_call 21; (with_reducible refine (HC.out).mono ?_); rintro e w1 ⟨rfl, hb⟩; have ck := one_box hb k hk; have HB1 := Lib.hid (bel0 HW.out hb); clear hb; generalize f k = v at *)
    go_ret
    exact ⟨by rw [HI.out]; rfl, HB1.out⟩
  · change placeZ p n = -1 at hq
    rw [hq] at HC ⊢
    clear hq
    have HI : Hid (isS f (-1) = false) := Lib.hid rfl
    go_enter Tryd.func15, Tryd.ntmps15
    go_wp2_with (go_at_call 21; (with_reducible refine (HC.out).mono ?_); rintro e w1 ⟨rfl, hb⟩; have HB1 := Lib.hid (bel0 HW.out hb); clear hb)
    go_ret
    exact ⟨by rw [HI.out]; rfl, HB1.out⟩
theorem eqS_self (f : Nat → Bool) : eqS f f = true := by simp [eqS]
theorem known_eq (z : Int) (hz : z < 18) : (!eqS (updS (fun _ => false) z true) fun _ => false) = decide (0 ≤ z) := by
  by_cases h : 0 ≤ z
  · obtain ⟨k, rfl⟩ := Int.eq_ofNat_of_zero_le h
    rw [decide_eq_true h]
    have : eqS (updS (fun _ => false) (k : Int) true) (fun _ => false) = false := by
      unfold eqS
      rw [List.all_eq_false]
      exact ⟨k, List.mem_range.2 (by omega), by simp [updS]⟩
    rw [this]
    rfl
  · rw [decide_eq_false h]
    have : updS (fun _ => false) z true = fun _ => false := by
      funext k
      exact if_neg (by omega)
    rw [this, eqS_self]
    rfl
theorem placeZ_lt (p : Bool) (n : Int) : placeZ p n < 18 := by
  rcases posQ_cases (fun k => pM k == p && nM k == n) with ⟨k, hk, _, hq, _⟩ | ⟨hq, _⟩
  · change placeZ p n = k at hq
    omega
  · change placeZ p n = -1 at hq
    omega
theorem with0_any (p : Bool) (n : Int) (on : Bool) (w : World) (hT : NT w) :
    Calls Tryd.prog 10 #[.agg zeroS, .bool p, .int .i64 n, .bool on] w fun e w' => e = .returned (.agg (sv (updS (fun _ => false) (placeZ p n) on))) ∧ Below w.heap.size w w' := by
  rw [zeroS_eq]
  exact with_any _ p n on w hT
theorem eqSet0 (W : World) (f : Nat → Bool) : (Op.equalIn 10000 26 (.agg (sv f)) (.agg zeroS)).run Tryd.prog W = .ok (eqS f fun _ => false) W := by
  rw [zeroS_eq]
  exact eqSet W _ _
set_option maxRecDepth 100000 in
set_option maxHeartbeats 4000000 in
theorem known_any (p : Bool) (n : Int) (w : World) (hT : NT w) :
    Calls Tryd.prog 17 #[.bool p, .int .i64 n] w fun e w' => e = .returned (.bool (decide (0 ≤ placeZ p n))) ∧ Below w.heap.size w w' := by
  have HC : Hid (Calls Tryd.prog 10 #[.agg zeroS, .bool p, .int .i64 n, .bool true] w fun e w' => e = .returned (.agg (sv (updS (fun _ => false) (placeZ p n) true))) ∧ Below w.heap.size w w') := Lib.hid (with0_any p n true w hT)
  have he : ∀ W, (Op.equalIn 10000 26 (.agg (sv (updS (fun _ => false) (placeZ p n) true))) (.agg zeroS)).run Tryd.prog W = .ok (eqS (updS (fun _ => false) (placeZ p n) true) fun _ => false) W := fun W => eqSet0 W _
  have HK := Lib.hid (known_eq (placeZ p n) (placeZ_lt p n))
  have hg := guardSet
  clear hT
  generalize eqS (updS (fun _ => false) (placeZ p n) true) (fun _ => false) = b at *
  generalize sv (updS (fun _ => false) (placeZ p n) true) = v at *
  go_enter Tryd.func17, Tryd.ntmps17
  go_wp2_with (go_at_call 10; (with_reducible refine (HC.out).mono ?_); rintro e w1 ⟨rfl, hb⟩; have HB1 := Lib.hid hb; clear hb)
  go_ret
  exact ⟨by rw [← HK.out]; rfl, HB1.out⟩
/-- The set as at first. -/
def firstF (k : Nat) : Bool := k == 5 || k == 6
theorem place7 : placeZ true 7 = 5 := by decide
theorem place25 : placeZ true 25 = 6 := by decide
set_option maxRecDepth 100000 in
set_option maxHeartbeats 4000000 in
theorem new_any (w : World) (hT : NT w) :
    Calls Tryd.prog 8 #[] w fun e w' => e = .returned (.agg (sv firstF)) ∧ Below w.heap.size w w' := by
  have HW := Lib.hid (belA (Below.refl w.heap.size w) (.cells zeroS 26))
  have HC : Hid (Calls Tryd.prog 10 #[.agg zeroS, .bool true, .int .i64 7, .bool true] (w.alloc (.cells zeroS 26)) fun e w' => e = .returned (.agg (sv (updS (fun _ => false) (placeZ true 7) true))) ∧ Below (w.alloc (.cells zeroS 26)).heap.size (w.alloc (.cells zeroS 26)) w') := Lib.hid (with0_any true 7 true _ (hT.below HW.out))
  have HD : Hid (∀ W, NT W → Calls Tryd.prog 10 #[.agg (sv (updS (fun _ => false) (placeZ true 7) true)), .bool true, .int .i64 25, .bool true] W fun e w' => e = .returned (.agg (sv firstF)) ∧ Below W.heap.size W w') := Lib.hid fun W hW => by
    have h := with_any (updS (fun _ => false) (placeZ true 7) true) true 25 true W hW
    have e : updS (updS (fun _ => false) (placeZ true 7) true) (placeZ true 25) true = firstF := by
      funext k
      rw [place7, place25]
      unfold updS firstF
      by_cases h6 : k = 6
      · subst h6; rfl
      · by_cases h5 : k = 5
        · subst h5; rfl
        · have a6 : ¬ (k : Int) = 6 := by omega
          have a5 : ¬ (k : Int) = 5 := by omega
          simp [h5, h6, a5, a6]
    rwa [e] at h
  have HT := Lib.hid hT
  clear hT
  generalize sv (updS (fun _ => false) (placeZ true 7) true) = v1 at *
  go_enter Tryd.func8, Tryd.ntmps8
  go_wp2_with (first
    | (go_at_call 10; (with_reducible refine (HC.out).mono ?_); rintro e w1 ⟨rfl, hb⟩; have y0 : w1.heap[w.heap.size]? = some (.cells zeroS 26 (0, 0)) := (hb.block _ (by simp)).trans (heap_alloc_new w _); have Y0 := Lib.hid y0; have HB1 := Lib.hid (bel0 HW.out hb); clear hb y0)
    | (go_at_call 10; (with_reducible refine (HD.out _ (HT.out.below HB1.out)).mono ?_); rintro e w2 ⟨rfl, hb⟩; have Y1 := Lib.hid ((hb.block _ (lt_of_block Y0.out)).trans Y0.out); have HB2 := Lib.hid (bel0 HB1.out hb); clear hb)
    | (refine wpList_store_row rfl 26 _ _ rfl w.heap.size _ rfl rfl 26 _ Y1.out (infoSet _) (by rw [zeroS_eq, sv_size, sv_size]) (sv_one _) ?_))
  refine bodyPost_ret (results_cell_row rfl _ _ w.heap.size _ _ _ _ rfl (setRow_heap _ _ _ _ _ _ Y1.out) Tryd.underlying26 rfl (infoSet _)) rfl ⟨rfl, ?_⟩
  exact below_setRow HB2.out (Nat.le_refl _) _
end Go.Proofs.YtolhdmlphmnpbaaDoor
