/- Stops of the tabulator: where they lie in memory; the walks of Cols, isColumn, Has, Set, Clear, None; of stops that aren't there. -/
import Derived.Test.YtabipecpkbjdkaaKa
namespace Go.Proofs.Ytabipecpkbjdkaa
open Go.RowKit

def bv (l : List Bool) : Array Value := (l.map Value.bool).toArray
/-- Stops lie in block s, their columns in block b. -/
structure SS (W : World) (s b : Nat) (l : List Bool) : Prop where
  hs : W.heap[s]? = some (.cells #[.slice (some ⟨b, 0, none⟩) l.length l.length] 52 (0, 0))
  hb : W.heap[b]? = some (.cells (bv l) 4 (0, 0))
  lo : 2 ≤ l.length
  hi : l.length ≤ 1000
theorem SS.ne {W : World} {s b : Nat} {l : List Bool} (h : SS W s b l) : s ≠ b := fun e => by
  have h1 := h.hs
  rw [e, h.hb] at h1
  simp at h1
theorem SS.c0 {W : World} {s b : Nat} {l : List Bool} (h : SS W s b l) : W.cell? ⟨s, 0, none⟩ = some (.slice (some ⟨b, 0, none⟩) l.length l.length) := cell_of_one h.hs
theorem SS.f0 {W : World} {s b : Nat} {l : List Bool} (h : SS W s b l) : W.frozen? ⟨s, 0, none⟩ = false := free_of_one h.hs
theorem SS.cx {W : World} {s b : Nat} {l : List Bool} (h : SS W s b l) (x : Nat) (hx : x < l.length) : W.cell? ⟨b, x, none⟩ = some (.bool (l[x]?.getD false)) := by
  rw [cell_of_row W b x _ _ _ h.hb]
  simp [bv, hx]
theorem SS.fx {W : World} {s b : Nat} {l : List Bool} (h : SS W s b l) (x : Nat) : W.frozen? ⟨b, x, none⟩ = false := frozen_of_row W b x _ _ h.hb
theorem SS.lts {W : World} {s b : Nat} {l : List Bool} (h : SS W s b l) : s < W.heap.size := lt_of_block h.hs
theorem SS.ltb {W : World} {s b : Nat} {l : List Bool} (h : SS W s b l) : b < W.heap.size := lt_of_block h.hb
theorem SS.past {W W' : World} {s b : Nat} {l : List Bool} (h : SS W s b l) (hb : Below W.heap.size W W') : SS W' s b l :=
  ⟨(hb.block s h.lts).trans h.hs, (hb.block b h.ltb).trans h.hb, h.lo, h.hi⟩
theorem SS.grown {W W' : World} {s b : Nat} {l : List Bool} {row : Option Nat} (h : SS W s b l) (hg : W.grownBy W' row) (h1 : some s ≠ row) (h2 : some b ≠ row) : SS W' s b l :=
  ⟨(hg.block s h.lts h1).trans h.hs, (hg.block b h.ltb h2).trans h.hb, h.lo, h.hi⟩
theorem SS.set {W : World} {s b : Nat} {l : List Bool} (h : SS W s b l) (x : Nat) (v : Bool) : SS (W.setCell ⟨b, x, none⟩ (.bool v)) s b (l.set x v) := by
  have hl : (l.set x v).length = l.length := by simp
  refine ⟨?_, ?_, by rw [hl]; exact h.lo, by rw [hl]; exact h.hi⟩
  · rw [heap_setCell_other W ⟨b, x, none⟩ s _ h.ne, hl]
    exact h.hs
  · rw [heap_setCell_same W b x _ _ _ h.hb]
    congr 2
    simp [bv, List.map_set]
theorem one_grown (W : World) (g i : Nat) (v : Value) : W.grownBy (W.setCell ⟨g, i, none⟩ v) (some g) :=
  ⟨rfl, rfl, rfl, by simp, fun k _ hne => heap_setCell_other W ⟨g, i, none⟩ k v (fun e => hne (by rw [e]))⟩
def colB (n : Nat) (x : Int) : Bool := decide (0 ≤ x ∧ x < n)
theorem colB_yes {n : Nat} {x : Int} (h : colB n x = true) : 0 ≤ x ∧ x < n := of_decide_eq_true h
theorem colB_no {n : Nat} {x : Int} (h : colB n x = false) : x < 0 ∨ n ≤ x := by
  have := of_decide_eq_false h
  omega

theorem cols_any (s b : Nat) (l : List Bool) (w : World) (h : SS w s b l) :
    Calls Try.prog 17 #[.pointer (some ⟨s, 0, none⟩)] w fun e w' => e = .returned (.int .i64 l.length) ∧ w = w' := by
  have hc := h.c0
  clear h
  generalize l.length = n at *
  go_enter Try.func17, Try.ntmps17
  go_wp2
  go_ret
  exact ⟨rfl, rfl⟩
theorem cols_nil (w : World) :
    Calls Try.prog 17 #[.pointer none] w fun e w' => e = .returned (.int .i64 0) ∧ w = w' := by
  go_enter Try.func17, Try.ntmps17
  go_wp2
  go_ret
  exact ⟨rfl, rfl⟩

theorem isColumn_any (s b : Nat) (l : List Bool) (x : Int) (w : World) (h : SS w s b l) :
    Calls Try.prog 25 #[.pointer (some ⟨s, 0, none⟩), .int .i64 x] w fun e w' => e = .returned (.bool (colB l.length x)) ∧ w = w' := by
  have HC : Hid (Calls Try.prog 17 #[.pointer (some ⟨s, 0, none⟩)] w fun e w' => e = .returned (.int .i64 l.length) ∧ w = w') := Lib.hid (cols_any s b l w h)
  clear h
  generalize l.length = n at *
  by_cases h0 : 0 ≤ x
  · by_cases h1 : x < n
    · have HB : Hid (colB n x = true) := Lib.hid (decide_eq_true ⟨h0, h1⟩)
      go_enter Try.func25, Try.ntmps25
      go_wp2_with (go_at_call 17; (with_reducible refine HC.out.mono ?_); rintro e w' ⟨rfl, rfl⟩)
      go_ret
      exact ⟨by rw [HB.out]; rfl, rfl⟩
    · have HB : Hid (colB n x = false) := Lib.hid (decide_eq_false (by omega))
      have h2 : decide (x < (n : Int)) = false := decide_eq_false h1
      clear h1
      go_enter Try.func25, Try.ntmps25
      go_wp2_with (go_at_call 17; (with_reducible refine HC.out.mono ?_); rintro e w' ⟨rfl, rfl⟩)
      go_ret
      exact ⟨by rw [HB.out]; rfl, rfl⟩
  · have HB : Hid (colB n x = false) := Lib.hid (decide_eq_false (by omega))
    have h2 : decide (0 ≤ x) = false := decide_eq_false h0
    clear h0
    go_enter Try.func25, Try.ntmps25
    go_wp2
    go_ret
    exact ⟨by rw [HB.out]; rfl, rfl⟩
theorem isColumn_nil (x : Int) (w : World) :
    Calls Try.prog 25 #[.pointer none, .int .i64 x] w fun e w' => e = .returned (.bool false) ∧ w = w' := by
  by_cases h0 : 0 ≤ x
  · have h2 : decide (x < 0) = false := decide_eq_false (by omega)
    go_enter Try.func25, Try.ntmps25
    go_wp2_with (go_at_call 17; (with_reducible refine (cols_nil _).mono ?_); rintro e w' ⟨rfl, rfl⟩)
    go_ret
    exact ⟨rfl, rfl⟩
  · have h2 : decide (0 ≤ x) = false := decide_eq_false h0
    clear h0
    go_enter Try.func25, Try.ntmps25
    go_wp2
    go_ret
    exact ⟨rfl, rfl⟩

def hasB (l : List Bool) (x : Int) : Bool := colB l.length x && (l[x.toNat]?.getD false)
theorem has_any (s b : Nat) (l : List Bool) (x : Int) (w : World) (h : SS w s b l) :
    Calls Try.prog 24 #[.pointer (some ⟨s, 0, none⟩), .int .i64 x] w fun e w' => e = .returned (.bool (hasB l x)) ∧ w = w' := by
  have HC : Hid (Calls Try.prog 25 #[.pointer (some ⟨s, 0, none⟩), .int .i64 x] w fun e w' => e = .returned (.bool (colB l.length x)) ∧ w = w') := Lib.hid (isColumn_any s b l x w h)
  by_cases hb : colB l.length x = true
  · obtain ⟨h0, h1⟩ := colB_yes hb
    obtain ⟨k, rfl⟩ := Int.eq_ofNat_of_zero_le h0
    have hc := h.c0
    have hx := h.cx k (by omega)
    have HB : Hid (hasB l (k : Int) = l[k]?.getD false) := Lib.hid (by unfold hasB; rw [hb, Bool.true_and, Int.toNat_natCast])
    rw [hb] at HC
    have hi := h.hi
    clear h hb h0
    generalize l[k]?.getD false = v at *
    generalize l.length = n at *
    go_enter Try.func24, Try.ntmps24
    go_wp2_with (go_at_call 25; (with_reducible refine HC.out.mono ?_); rintro e w' ⟨rfl, rfl⟩)
    go_ret
    exact ⟨by rw [HB.out]; rfl, rfl⟩
  · have hb' : colB l.length x = false := by simpa using hb
    have HB : Hid (hasB l x = false) := Lib.hid (by unfold hasB; rw [hb', Bool.false_and])
    rw [hb'] at HC
    clear h hb hb'
    go_enter Try.func24, Try.ntmps24
    go_wp2_with (go_at_call 25; (with_reducible refine HC.out.mono ?_); rintro e w' ⟨rfl, rfl⟩)
    go_ret
    exact ⟨by rw [HB.out]; rfl, rfl⟩
theorem has_nil (x : Int) (w : World) :
    Calls Try.prog 24 #[.pointer none, .int .i64 x] w fun e w' => e = .returned (.bool false) ∧ w = w' := by
  go_enter Try.func24, Try.ntmps24
  go_wp2_with (go_at_call 25; (with_reducible refine (isColumn_nil _ _).mono ?_); rintro e w' ⟨rfl, rfl⟩)
  go_ret
  exact ⟨rfl, rfl⟩

/-- Columns, one of which is told anew. -/
def putB (l : List Bool) (x : Int) (v : Bool) : List Bool := if colB l.length x then l.set x.toNat v else l
theorem putB_len (l : List Bool) (x : Int) (v : Bool) : (putB l x v).length = l.length := by unfold putB; split <;> simp
def SetPost (s b : Nat) (l : List Bool) (w : World) (e : Ending) (w' : World) : Prop := e = .returned (.tuple #[]) ∧ SS w' s b l ∧ w.grownBy w' (some b)
theorem set_any (s b : Nat) (l : List Bool) (x : Int) (w : World) (h : SS w s b l) :
    Calls Try.prog 11 #[.pointer (some ⟨s, 0, none⟩), .int .i64 x] w (SetPost s b (putB l x true) w) := by
  have HC : Hid (Calls Try.prog 25 #[.pointer (some ⟨s, 0, none⟩), .int .i64 x] w fun e w' => e = .returned (.bool (colB l.length x)) ∧ w = w') := Lib.hid (isColumn_any s b l x w h)
  by_cases hb : colB l.length x = true
  · obtain ⟨h0, h1⟩ := colB_yes hb
    obtain ⟨k, rfl⟩ := Int.eq_ofNat_of_zero_le h0
    have hc := h.c0
    have hx := h.cx k (by omega)
    have hf := h.fx k
    have HE : Hid (SS (w.setCell ⟨b, k, none⟩ (.bool true)) s b (putB l (k : Int) true)) := Lib.hid (by unfold putB; rw [if_pos hb, Int.toNat_natCast]; exact h.set k true)
    rw [hb] at HC
    have hi := h.hi
    clear h hb h0
    generalize putB l (k : Int) true = m at *
    generalize l[k]?.getD false = v at *
    generalize l.length = n at *
    go_enter Try.func11, Try.ntmps11
    go_wp2_with (go_at_call 25; (with_reducible refine HC.out.mono ?_); rintro e w' ⟨rfl, rfl⟩)
    go_end0
    exact ⟨rfl, HE.out, one_grown _ _ _ _⟩
  · have hb' : colB l.length x = false := by simpa using hb
    have HE : Hid (SS w s b (putB l x true)) := Lib.hid (by unfold putB; rw [if_neg (by rw [hb']; decide)]; exact h)
    rw [hb'] at HC
    clear h hb hb'
    go_enter Try.func11, Try.ntmps11
    go_wp2_with (go_at_call 25; (with_reducible refine HC.out.mono ?_); rintro e w' ⟨rfl, rfl⟩)
    go_end0
    exact ⟨rfl, HE.out, ⟨rfl, rfl, rfl, Nat.le_refl _, fun _ _ _ => rfl⟩⟩

end Go.Proofs.Ytabipecpkbjdkaa
