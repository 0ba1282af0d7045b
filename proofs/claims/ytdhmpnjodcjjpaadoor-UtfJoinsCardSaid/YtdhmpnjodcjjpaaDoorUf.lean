/- The walks of the utf laws: awake, UtfNone. -/
import Derived.Test.YtdhmpnjodcjjpaaDoorUe
import Derived.Test.YtdhmpnjodcjjpaaDoorUs
namespace Go.Proofs.YtdhmpnjodcjjpaaDoor
open Go.RowKit Go.Shelf

def intsOf (l : List Nat) : List Int := l.map fun (r : Nat) => (r : Int)
theorem intsOf_enc (l : List Nat) : (intsOf l).map (Value.int .i32) = l.map encN := by unfold intsOf; rw [List.map_map]; rfl
theorem own_form {w : World} {base : Nat} {e : TypeId} {size : Nat} {v : Value} {k : Nat} {xs : List Value} (h : w.ownsRow base e size v k xs) :
    ∃ A c, v = .slice A k c ∧ (0 < k → ∃ g, A = some ⟨g, 0, none⟩) := by
  rcases h.2 with ⟨rfl, rfl⟩ | ⟨g, cap, cur, rfl, _⟩
  · exact ⟨none, 0, rfl, fun h => by omega⟩
  · exact ⟨_, cap, rfl, fun _ => ⟨g, rfl⟩⟩
/-- A row of the call's own reads as its numbers. -/
theorem RS.of_own {w : World} {base n c : Nat} {A : Option Addr} {xs : List Int} (h : w.ownsRow base 21 1 (.slice A n c) n (xs.map (Value.int .i32))) : RS w w.heap.size A xs := fun hn => by
  have hl : xs.length = n := by have := h.1; simpa using this
  obtain ⟨A', c', e, hA⟩ := own_form h
  injection e with e1 _ _
  subst e1
  obtain ⟨g, rfl⟩ := hA (by rw [← hl]; exact List.length_pos_iff.2 hn)
  refine ⟨g, 0, rfl, (h.lt g rfl).2, fun k hk => ?_⟩
  rw [Nat.zero_add, h.cellAt k (by omega), List.getElem?_map, List.getElem?_eq_getElem hk]
  rfl
/-- What All answers, as Same takes it. -/
def AllRS (zs : List Nat) (w : World) (e : Ending) (w' : World) : Prop :=
  ∃ A c, e = .returned (.slice A (allL zs).length c) ∧ RS w' w'.heap.size A (intsOf (allL zs)) ∧ Below w.heap.size w w'
theorem all_rs (A : Option Addr) (zs : List Nat) (n c : Nat) (hn : n = zs.length) (hlen : n ≤ 100000) (hcap : n ≤ c) (h63 : c ≤ 9223372036854775807) (w : World) (h4 : max 0 1 + 1 ≤ w.heap.size) (hT : UT w) (hR : BS w w.heap.size A zs) :
    Calls Tryd.prog 12 #[.slice A n c] w (AllRS zs w) := by
  refine (all_any A zs n c hn hlen hcap h63 w h4 hT hR).mono ?_
  rintro e w' ⟨v, rfl, ho, hb⟩
  obtain ⟨A', c', rfl, _⟩ := own_form ho
  rw [← intsOf_enc] at ho
  exact ⟨A', c', rfl, RS.of_own ho, hb⟩

theorem bs_new (w : World) (zs : List Nat) (hz : ∀ z ∈ zs, z < 256) : BS (w.alloc (.cells (zs.map fun z => Value.int .u8 (z : Nat)).toArray 5)) (w.alloc (.cells (zs.map fun z => Value.int .u8 (z : Nat)).toArray 5)).heap.size (some ⟨w.heap.size, 0, none⟩) zs :=
  ⟨hz, fun _ => ⟨w.heap.size, 0, rfl, by simp, fun k hk => by
    refine (cell_of_row _ _ _ _ _ _ (heap_alloc_new w _)).trans ?_
    simp [hk]⟩⟩
theorem rs_new (w : World) (xs : List Int) : RS (w.alloc (.cells (xs.map (Value.int .i32)).toArray 21)) (w.alloc (.cells (xs.map (Value.int .i32)).toArray 21)).heap.size (some ⟨w.heap.size, 0, none⟩) xs := fun _ =>
  ⟨w.heap.size, 0, rfl, by simp, fun k hk => by
    refine (cell_of_row _ _ _ _ _ _ (heap_alloc_new w _)).trans ?_
    simp [hk]⟩
theorem aw1 : allL [226, 130, 65] = [65533, 65] := by decide
theorem aw2 : allL [240, 159, 152, 128] = [128512] := by decide

set_option maxHeartbeats 1000000 in
theorem awake_any (w : World) (h4 : max 0 1 + 1 ≤ w.heap.size) (hT : UT w) : Calls Tryd.prog 10 #[] w fun e w' => e = .returned (.bool true) ∧ Below w.heap.size w w' := by
  have H1 : Hid (∀ W, Below w.heap.size w W → Calls Tryd.prog 12 #[.slice (some ⟨W.heap.size, 0, none⟩) 3 3] (W.alloc (.cells #[.int .u8 226, .int .u8 130, .int .u8 65] 5)) fun e w' => (∃ A c, e = .returned (.slice A 2 c) ∧ RS w' w'.heap.size A [65533, 65]) ∧ Below w.heap.size w w') := Lib.hid fun W hW => by
    have ha : Below W.heap.size W (W.alloc (.cells #[.int .u8 226, .int .u8 130, .int .u8 65] 5)) := (Below.refl _ _).alloc (Nat.le_refl _) _
    refine (all_rs _ [226, 130, 65] 3 3 rfl (by omega) (by omega) (by omega) _ (Nat.le_trans h4 (Nat.le_trans hW.size ha.size)) ((hT.below hW).below ha) (bs_new W [226, 130, 65] (by decide))).mono ?_
    rintro e w' ⟨A, c, rfl, hr, hb⟩
    rw [aw1] at hr ⊢
    exact ⟨⟨A, c, rfl, hr⟩, (hW.trans (ha.mono hW.size)).trans (hb.mono (Nat.le_trans hW.size ha.size))⟩
  have H2 : Hid (∀ W, Below w.heap.size w W → Calls Tryd.prog 12 #[.slice (some ⟨W.heap.size, 0, none⟩) 4 4] (W.alloc (.cells #[.int .u8 240, .int .u8 159, .int .u8 152, .int .u8 128] 5)) fun e w' => (∃ A c, e = .returned (.slice A 1 c) ∧ RS w' w'.heap.size A [128512]) ∧ Below w.heap.size w w') := Lib.hid fun W hW => by
    have ha : Below W.heap.size W (W.alloc (.cells #[.int .u8 240, .int .u8 159, .int .u8 152, .int .u8 128] 5)) := (Below.refl _ _).alloc (Nat.le_refl _) _
    refine (all_rs _ [240, 159, 152, 128] 4 4 rfl (by omega) (by omega) (by omega) _ (Nat.le_trans h4 (Nat.le_trans hW.size ha.size)) ((hT.below hW).below ha) (bs_new W [240, 159, 152, 128] (by decide))).mono ?_
    rintro e w' ⟨A, c, rfl, hr, hb⟩
    rw [aw2] at hr ⊢
    exact ⟨⟨A, c, rfl, hr⟩, (hW.trans (ha.mono hW.size)).trans (hb.mono (Nat.le_trans hW.size ha.size))⟩
  have HS1 : Hid (∀ W A c, Below w.heap.size w W → RS W W.heap.size A [65533, 65] → Calls Tryd.prog 11 #[.slice A 2 c, .slice (some ⟨W.heap.size, 0, none⟩) 2 2] (W.alloc (.cells #[.int .i32 65533, .int .i32 65] 21)) fun e w' => e = .returned (.bool true) ∧ Below w.heap.size w w') := Lib.hid fun W A c hW hr => by
    have ha : Below W.heap.size W (W.alloc (.cells #[.int .i32 65533, .int .i32 65] 21)) := (Below.refl _ _).alloc (Nat.le_refl _) _
    refine (same_any A _ [65533, 65] [65533, 65] 2 2 c 2 rfl rfl (by omega) _ ((hr.below ha).more ha.size) (rs_new W [65533, 65])).mono ?_
    rintro e w' ⟨rfl, hb⟩
    exact ⟨rfl, (hW.trans (ha.mono hW.size)).trans (hb.mono (Nat.le_trans hW.size ha.size))⟩
  have HS2 : Hid (∀ W A c, Below w.heap.size w W → RS W W.heap.size A [128512] → Calls Tryd.prog 11 #[.slice A 1 c, .slice (some ⟨W.heap.size, 0, none⟩) 1 1] (W.alloc (.cells #[.int .i32 128512] 21)) fun e w' => e = .returned (.bool true) ∧ Below w.heap.size w w') := Lib.hid fun W A c hW hr => by
    have ha : Below W.heap.size W (W.alloc (.cells #[.int .i32 128512] 21)) := (Below.refl _ _).alloc (Nat.le_refl _) _
    refine (same_any A _ [128512] [128512] 1 1 c 1 rfl rfl (by omega) _ ((hr.below ha).more ha.size) (rs_new W [128512])).mono ?_
    rintro e w' ⟨rfl, hb⟩
    exact ⟨rfl, (hW.trans (ha.mono hW.size)).trans (hb.mono (Nat.le_trans hW.size ha.size))⟩
  clear hT
  go_enter Tryd.func10, Tryd.ntmps10
  go_wp2_with (first | (go_at_call 12; (with_reducible refine (H1.out _ (Below.refl _ _)).mono ?_); clear H1; rintro e w1 ⟨⟨A1, c1, rfl, hr1⟩, hb1⟩; have HR1 := Lib.hid hr1; clear hr1) | (go_at_call 11; (with_reducible refine (HS1.out _ _ _ hb1 HR1.out).mono ?_); clear HS1; rintro e w2 ⟨rfl, hb2⟩) | (go_at_call 12; (with_reducible refine (H2.out _ hb2).mono ?_); clear H2; rintro e w3 ⟨⟨A2, c2, rfl, hr2⟩, hb3⟩; have HR2 := Lib.hid hr2; clear hr2) | (go_at_call 11; (with_reducible refine (HS2.out _ _ _ hb3 HR2.out).mono ?_); clear HS2; rintro e w4 ⟨rfl, hb4⟩))
  go_ret
  exact ⟨rfl, hb4⟩

set_option maxHeartbeats 1000000 in
theorem utfNone_law (i : Int) (w : World) (h4 : max 0 1 + 1 ≤ w.heap.size) (hT : UT w) : Calls Tryd.prog 9 #[.int .u8 i] w fun e w' => e = .returned (.bool true) ∧ Below w.heap.size w w' := by
  have ha := awake_any w h4 hT
  clear hT h4
  go_enter Tryd.func9, Tryd.ntmps9
  go_wp2_with (first | (go_at_call 10; refine ha.mono ?_; rintro e w1 ⟨rfl, hb1⟩) | go_in)
  go_ret
  exact ⟨rfl, hb1⟩

end Go.Proofs.YtdhmpnjodcjjpaaDoor
