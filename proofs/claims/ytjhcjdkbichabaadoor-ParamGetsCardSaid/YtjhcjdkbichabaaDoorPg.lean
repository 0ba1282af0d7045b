/- The walks of param's laws: awake, ParamParses. -/
import Derived.Test.YtjhcjdkbichabaaDoorPf
namespace Go.Proofs.YtjhcjdkbichabaaDoor
open Go.RowKit

/-- strings.Cut's variable is there. -/
def PT (w : World) : Prop := ∃ ml, w.cell? ⟨2, 0, none⟩ = some (.int .i64 ml)
theorem PT.below {w w' : World} (h : PT w) (hb : Below w.heap.size w w') : PT w' := by
  obtain ⟨ml, hm⟩ := h
  exact ⟨ml, (hb.cell (p := ⟨2, 0, none⟩) (block_lt_of_cell hm)).trans hm⟩
theorem PT.parse {w : World} (h : PT w) (s : ByteArray) (hs : s.size ≤ 1000000) : Calls Tryd.prog 9 #[.string s] w (ParsePost s.data.toList w) := by
  obtain ⟨ml, hm⟩ := h
  exact parse_any s w hs ml hm
theorem HZ_row (l : List UInt8) (i : Nat) : ((HZ l)[i]?.getD []).length ≤ 9223372036854775807 := by
  unfold HZ
  rw [List.getElem?_map]
  cases ((GZ l).take 32)[i]? with
  | none => simp
  | some r => simp; omega
theorem HZ_len (l : List UInt8) : (HZ l).length ≤ 32 := by
  unfold HZ
  simp
  omega
def aw4 (w : World) : World := (((w.alloc (.cells #[.int .i64 1] 3)).alloc (.cells #[.int .i64 (-1)] 3)).alloc (.cells #[.int .i64 38, .int .i64 5] 3)).alloc (.cells #[.slice (some ⟨w.heap.size, 0, none⟩) 1 1, .slice (some ⟨w.heap.size + 1, 0, none⟩) 1 1, .slice (some ⟨w.heap.size + 2, 0, none⟩) 2 2] 31)
theorem aw4_rg (w : World) : RG (aw4 w) (aw4 w).heap.size (some ⟨w.heap.size + 3, 0, none⟩) [[1], [-1], [38, 5]] := fun _ => by
  have z3 : (((w.alloc (.cells #[.int .i64 1] 3)).alloc (.cells #[.int .i64 (-1)] 3)).alloc (.cells #[.int .i64 38, .int .i64 5] 3)).heap.size = w.heap.size + 3 := by simp
  have hz : (aw4 w).heap.size = w.heap.size + 4 := by unfold aw4; simp
  have h3 : (aw4 w).heap[w.heap.size + 3]? = some (.cells #[.slice (some ⟨w.heap.size, 0, none⟩) 1 1, .slice (some ⟨w.heap.size + 1, 0, none⟩) 1 1, .slice (some ⟨w.heap.size + 2, 0, none⟩) 2 2] 31 (0, 0)) := by
    have := heap_alloc_new (((w.alloc (.cells #[.int .i64 1] 3)).alloc (.cells #[.int .i64 (-1)] 3)).alloc (.cells #[.int .i64 38, .int .i64 5] 3)) (.cells #[.slice (some ⟨w.heap.size, 0, none⟩) 1 1, .slice (some ⟨w.heap.size + 1, 0, none⟩) 1 1, .slice (some ⟨w.heap.size + 2, 0, none⟩) 2 2] 31)
    rw [z3] at this
    exact this
  have h2 : (aw4 w).heap[w.heap.size + 2]? = some (.cells #[.int .i64 38, .int .i64 5] 3 (0, 0)) := by
    have := heap_alloc_new ((w.alloc (.cells #[.int .i64 1] 3)).alloc (.cells #[.int .i64 (-1)] 3)) (.cells #[.int .i64 38, .int .i64 5] 3)
    rw [show ((w.alloc (.cells #[.int .i64 1] 3)).alloc (.cells #[.int .i64 (-1)] 3)).heap.size = w.heap.size + 2 by simp] at this
    exact alloc_block this
  have h1 : (aw4 w).heap[w.heap.size + 1]? = some (.cells #[.int .i64 (-1)] 3 (0, 0)) := by
    have := heap_alloc_new (w.alloc (.cells #[.int .i64 1] 3)) (.cells #[.int .i64 (-1)] 3)
    rw [show (w.alloc (.cells #[.int .i64 1] 3)).heap.size = w.heap.size + 1 by simp] at this
    exact alloc_block (alloc_block this)
  have h0 : (aw4 w).heap[w.heap.size]? = some (.cells #[.int .i64 1] 3 (0, 0)) := alloc_block (alloc_block (alloc_block (heap_alloc_new w _)))
  refine ⟨w.heap.size + 3, 0, rfl, by omega, fun i hi => ?_⟩
  rw [Nat.zero_add, cell_of_row _ _ _ _ _ _ h3]
  match i, hi with
  | 0, _ => exact ⟨_, 1, rfl, fun _ => ⟨w.heap.size, 0, rfl, by omega, fun k hk => by
      rw [cell_of_row _ _ _ _ _ _ h0]
      match k, hk with
      | 0, _ => rfl⟩, by simp⟩
  | 1, _ => exact ⟨_, 1, rfl, fun _ => ⟨w.heap.size + 1, 0, rfl, by omega, fun k hk => by
      rw [cell_of_row _ _ _ _ _ _ h1]
      match k, hk with
      | 0, _ => rfl⟩, by simp⟩
  | 2, _ => exact ⟨_, 2, rfl, fun _ => ⟨w.heap.size + 2, 0, rfl, by omega, fun k hk => by
      rw [cell_of_row _ _ _ _ _ _ h2]
      match k, hk with
      | 0, _ => rfl
      | 1, _ => rfl⟩, by simp⟩

set_option maxHeartbeats 2000000 in
theorem awake_any (w : World) (hT : PT w) : Calls Tryd.prog 8 #[] w fun e w' => e = .returned (.bool true) ∧ Below w.heap.size w w' := by
  have HP : Hid (Calls Tryd.prog 9 #[.string ⟨#[49, 59, 59, 51, 56, 58, 53]⟩] w fun e w' => ∃ A c, e = .returned (.tuple #[.slice A 3 c, .bool true]) ∧ RG w' w'.heap.size A [[1], [-1], [38, 5]] ∧ Below w.heap.size w w') := Lib.hid ((hT.parse ⟨#[49, 59, 59, 51, 56, 58, 53]⟩ (by decide)).mono fun e w' h => by
    rcases h with ⟨h, _⟩ | ⟨_, A, c, h1, h2, h3⟩
    · exact absurd h (by decide)
    · have e : HZ [49, 59, 59, 51, 56, 58, 53] = [[1], [-1], [38, 5]] := by decide
      have h1' : (⟨#[49, 59, 59, 51, 56, 58, 53]⟩ : ByteArray).data.toList = [49, 59, 59, 51, 56, 58, 53] := rfl
      rw [h1', e] at h1 h2
      exact ⟨A, c, h1, h2, h3⟩)
  have HS : Hid (∀ W A c, RG W W.heap.size A [[1], [-1], [38, 5]] → Calls Tryd.prog 11 #[.slice A 3 c, .slice (some ⟨W.heap.size + 3, 0, none⟩) 3 3] (aw4 W) fun e w' => e = .returned (.bool true) ∧ Below (aw4 W).heap.size (aw4 W) w') := Lib.hid fun W A c h => by
    have hb : Below W.heap.size W (aw4 W) := belA (belA (belA (belA (Below.refl _ _) _) _) _) _
    have := same_any A (some ⟨W.heap.size + 3, 0, none⟩) [[1], [-1], [38, 5]] [[1], [-1], [38, 5]] 3 3 c 3 rfl rfl (by omega) (fun i => by match i with | 0 => decide | 1 => decide | 2 => decide | k + 3 => simp) (aw4 W) (h.past hb) (aw4_rg W)
    rw [show sameL [[1], [-1], [38, 5]] [[1], [-1], [38, 5]] = true by decide] at this
    exact this
  have HBW : Hid (∀ W, Below w.heap.size w W → Below w.heap.size w (aw4 W)) := Lib.hid fun W h => belA (belA (belA (belA h _) _) _) _
  unfold aw4 at HS HBW
  clear hT
  go_enter Tryd.func8, Tryd.ntmps8
  go_wp2_with (first
    | (go_at_call 9; (with_reducible refine HP.out.mono ?_); rintro e w2 ⟨A2, c2, rfl, hr2, hb2⟩; have HR2 := Lib.hid hr2; have HB2 := Lib.hid hb2; clear hr2 hb2)
    | (go_at_call 11; (with_reducible refine (HS.out w2 A2 c2 HR2.out).mono ?_); rintro e w3 ⟨rfl, hb3⟩; have HB3 := Lib.hid (bel0 (HBW.out w2 HB2.out) hb3); clear hb3))
  go_ret
  exact ⟨rfl, HB3.out⟩

set_option maxHeartbeats 2000000 in
theorem paramParses_law (s : ByteArray) (w : World) (hT : PT w) (hmax : s.size ≤ 9223372036854775807) :
    Calls Tryd.prog 3 #[.string s] w fun e w' => e = .returned (.bool true) ∧ Below w.heap.size w w' := by
  have HA : Hid (∀ W, Below w.heap.size w W → Calls Tryd.prog 8 #[] W fun e w' => e = .returned (.bool true) ∧ Below W.heap.size W w') := Lib.hid fun W hW => awake_any W (hT.below hW)
  by_cases h400 : 400 < s.size
  · have hd : (400 : Int) < s.size := by omega
    clear hT
    go_enter Tryd.func3, Tryd.ntmps3
    go_wp2_with (go_at_call 8; (with_reducible refine (HA.out _ (Below.refl _ _)).mono ?_); rintro e w2 ⟨rfl, hb2⟩)
    go_ret
    exact ⟨rfl, hb2⟩
  · have hd : (s.size : Int) ≤ 400 := by omega
    cases hh : headL s.data.toList with
    | false =>
      have HP : Hid (Calls Tryd.prog 9 #[.string s] w fun e w' => e = .returned (.tuple #[.slice none 0 0, .bool false]) ∧ Below w.heap.size w w') := Lib.hid ((hT.parse s (by omega)).mono fun e w' h => by
        rcases h with ⟨_, h1, h2⟩ | ⟨h, _⟩
        · exact ⟨h1, h2⟩
        · rw [hh] at h; simp at h)
      have HQ : Hid (∀ W, Calls Tryd.prog 10 #[.string s] W fun e w' => e = .returned (.tuple #[.slice none 0 0, .bool false]) ∧ Below W.heap.size W w') := Lib.hid fun W => (refParse_any s W (by omega)).mono fun e w' h => by
        rcases h with ⟨_, h1, h2⟩ | ⟨h, _⟩
        · exact ⟨h1, h2⟩
        · rw [hh] at h; simp at h
      have HS : Hid (∀ W, Calls Tryd.prog 11 #[.slice none 0 0, .slice none 0 0] W fun e w' => e = .returned (.bool true) ∧ Below W.heap.size W w') := Lib.hid fun W => same_any none none [] [] 0 0 0 0 rfl rfl (by omega) (fun i => by simp) W (fun h => absurd rfl h) (fun h => absurd rfl h)
      clear hT hh h400
      go_enter Tryd.func3, Tryd.ntmps3
      go_wp2_with (first
        | (go_at_call 9; (with_reducible refine HP.out.mono ?_); rintro e w2 ⟨rfl, hb2⟩; have HB2 := Lib.hid hb2; clear hb2)
        | (go_at_call 10; (with_reducible refine (HQ.out _).mono ?_); rintro e w3 ⟨rfl, hb3⟩; have HB3 := Lib.hid (bel0 HB2.out hb3); clear hb3)
        | (go_at_call 11; (with_reducible refine (HS.out _).mono ?_); rintro e w4 ⟨rfl, hb4⟩; have HB4 := Lib.hid (bel0 HB3.out hb4); clear hb4)
        | (go_at_call 8; (with_reducible refine (HA.out _ HB4.out).mono ?_); rintro e w5 ⟨rfl, hb5⟩; have HB5 := Lib.hid (bel0 HB4.out hb5); clear hb5))
      go_ret
      exact ⟨rfl, HB5.out⟩
    | true =>
      obtain ⟨L, hL⟩ : ∃ L, HZ s.data.toList = L := ⟨_, rfl⟩
      have hl32 := HZ_len s.data.toList
      have hrow := HZ_row s.data.toList
      have HP : Hid (Calls Tryd.prog 9 #[.string s] w fun e w' => ∃ A c, e = .returned (.tuple #[.slice A L.length c, .bool true]) ∧ RG w' w'.heap.size A L ∧ Below w.heap.size w w') := Lib.hid ((hT.parse s (by omega)).mono fun e w' h => by
        rcases h with ⟨h, _⟩ | ⟨_, h⟩
        · rw [hh] at h; simp at h
        · rw [hL] at h; exact h)
      have HQ : Hid (∀ W, Calls Tryd.prog 10 #[.string s] W fun e w' => ∃ A c, e = .returned (.tuple #[.slice A L.length c, .bool true]) ∧ RG w' w'.heap.size A L ∧ Below W.heap.size W w') := Lib.hid fun W => (refParse_any s W (by omega)).mono fun e w' h => by
        rcases h with ⟨h, _⟩ | ⟨_, h⟩
        · rw [hh] at h; simp at h
        · rw [hL] at h; exact h
      rw [hL] at hl32 hrow
      have HS : Hid (∀ W A A' c c', RG W W.heap.size A L → RG W W.heap.size A' L → Calls Tryd.prog 11 #[.slice A L.length c, .slice A' L.length c'] W fun e w' => e = .returned (.bool true) ∧ Below W.heap.size W w') := Lib.hid fun W A A' c c' h1 h2 => by
        have := same_any A A' L L _ _ c c' rfl rfl (by omega) hrow W h1 h2
        rw [show sameL L L = true from decide_eq_true rfl] at this
        exact this
      clear hT hh h400 hL hrow
      go_enter Tryd.func3, Tryd.ntmps3
      go_wp2_with (first
        | (go_at_call 9; (with_reducible refine HP.out.mono ?_); rintro e w2 ⟨A2, c2, rfl, hr2, hb2⟩; have HR2 := Lib.hid hr2; have HB2 := Lib.hid hb2; clear hb2 hr2)
        | (go_at_call 10; (with_reducible refine (HQ.out _).mono ?_); rintro e w3 ⟨A3, c3, rfl, hr3, hb3⟩; have HR3 := Lib.hid hr3; have HR23 := Lib.hid (HR2.out.past hb3); have HB3 := Lib.hid (bel0 HB2.out hb3); clear hb3 hr3)
        | (go_at_call 11; (with_reducible refine (HS.out _ _ _ _ _ HR23.out HR3.out).mono ?_); rintro e w4 ⟨rfl, hb4⟩; have HB4 := Lib.hid (bel0 HB3.out hb4); clear hb4)
        | (go_at_call 8; (with_reducible refine (HA.out _ HB4.out).mono ?_); rintro e w5 ⟨rfl, hb5⟩; have HB5 := Lib.hid (bel0 HB4.out hb5); clear hb5))
      go_ret
      exact ⟨rfl, HB5.out⟩

end Go.Proofs.YtjhcjdkbichabaaDoor
