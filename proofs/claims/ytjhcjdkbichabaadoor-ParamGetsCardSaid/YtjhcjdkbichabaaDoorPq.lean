/- The walks of Get's and Flat's functions. -/
import Derived.Test.YtjhcjdkbichabaaDoorPo
namespace Go.Proofs.YtjhcjdkbichabaaDoor
open Go.RowKit

/-- The first value of the group i, or the usual one. -/
def gotV (i u : Int) (L : List (List Int)) : Int :=
  if i < 0 then u else match L[i.toNat]? with
    | some (v :: _) => if v = -1 then u else v
    | _ => u
theorem gotV_at (u : Int) (D : List (List Int)) (z : Int) : gotV (D.length : Int) u (D ++ [[z]]) = if z = -1 then u else z := by
  unfold gotV
  rw [if_neg (by omega), Int.toNat_natCast, List.getElem?_append_right (Nat.le_refl _), Nat.sub_self]
  rfl
theorem gotV_keep (i u : Int) (D : List (List Int)) (P : List Int) (z : Int) (h : i ≠ D.length ∨ P ≠ [] ∨ z = -1) : gotV i u (D ++ [P ++ [z]]) = gotV i u (D ++ [P]) := by
  unfold gotV
  by_cases h0 : i < 0
  · rw [if_pos h0, if_pos h0]
  · rw [if_neg h0, if_neg h0]
    by_cases h1 : i.toNat < D.length
    · rw [List.getElem?_append_left h1, List.getElem?_append_left h1]
    · rw [List.getElem?_append_right (by omega), List.getElem?_append_right (by omega)]
      by_cases h2 : i.toNat = D.length
      · rw [show i.toNat - D.length = 0 by omega]
        cases P with
        | nil =>
          rcases h with h | h | h
          · omega
          · exact absurd rfl h
          · subst h; rfl
        | cons a r => rfl
      · obtain ⟨k, hk⟩ : ∃ k, i.toNat - D.length = k + 1 := ⟨i.toNat - D.length - 1, by omega⟩
        rw [hk]
        rfl
theorem gotV_next (i u : Int) (D : List (List Int)) : gotV i u (D ++ [[]]) = gotV i u D := by
  unfold gotV
  by_cases h0 : i < 0
  · rw [if_pos h0, if_pos h0]
  · rw [if_neg h0, if_neg h0]
    by_cases h1 : i.toNat < D.length
    · rw [List.getElem?_append_left h1]
    · rw [List.getElem?_append_right (by omega), List.getElem?_eq_none (by omega : D.length ≤ i.toNat)]
      cases i.toNat - D.length with
      | zero => rfl
      | succ k => rfl
/-- Get's two variables lie in blocks lb and lb + 1. -/
structure GOT (i u : Int) (w0 W : World) (lb : Nat) (D : List (List Int)) (P : List Int) (vl : Value) : Prop where
  below : Below lb w0 W
  box : W.heap[lb]? = some (.cells #[.int .i64 i] 3 (0, 0))
  cell : W.heap[lb + 1]? = some (.cells #[vl] 3 (0, 0))
  val : vl = .int .i64 (gotV i u (D ++ [P]))
theorem GOT.step {i u : Int} {w0 W : World} {lb : Nat} {D : List (List Int)} {P : List Int} {vl : Value} (h : GOT i u w0 W lb D P vl) (_ : P ≠ []) : GOT i u w0 W lb (D ++ [P]) [] vl :=
  ⟨h.below, h.box, h.cell, by rw [gotV_next]; exact h.val⟩
theorem GOT.kept {i u z : Int} {w0 W : World} {lb : Nat} {D : List (List Int)} {P : List Int} {vl : Value} (h : GOT i u w0 W lb D P vl) (hk : i ≠ D.length ∨ P ≠ [] ∨ z = -1) : GOT i u w0 W lb D (P ++ [z]) vl :=
  ⟨h.below, h.box, h.cell, by rw [gotV_keep _ _ _ _ _ hk]; exact h.val⟩
theorem GOT.set {u z : Int} {w0 W : World} {lb : Nat} {D : List (List Int)} {vl : Value} (h : GOT (D.length : Int) u w0 W lb D [] vl) (hz : z ≠ -1) : GOT (D.length : Int) u w0 (W.setCell ⟨lb + 1, 0, none⟩ (.int .i64 z)) lb D ([] ++ [z]) (.int .i64 z) :=
  ⟨h.below.setCell (p := ⟨lb + 1, 0, none⟩) (by show lb ≤ lb + 1; omega) _, (heap_setCell_other W ⟨lb + 1, 0, none⟩ lb _ (by show lb ≠ lb + 1; omega)).trans h.box, one_setCell h.cell, by rw [List.nil_append, gotV_at, if_neg hz]⟩
def GPost (i u : Int) (w0 : World) (lb : Nat) (D : List (List Int)) (P : List Int) (e : Ending) (w' : World) : Prop := ∃ v', e = .returned (.tuple #[]) ∧ GOT i u w0 w' lb D P v'

set_option maxHeartbeats 2000000 in
theorem get1_any (i u : Int) (lb : Nat) (D : List (List Int)) (P : List Int) (z : Int) (vl : Value) (w0 w : World) (hI : GOT i u w0 w lb D P vl) :
    Calls Tryd.prog 30 #[.int .i64 D.length, .int .i64 P.length, .int .i64 z, .pointer (some ⟨lb, 0, none⟩), .pointer (some ⟨lb + 1, 0, none⟩)] w (GPost i u w0 lb D (P ++ [z])) := by
  have hcb := cell_of_one hI.box
  have hcl := cell_of_one hI.cell
  have hfl := free_of_one hI.cell
  by_cases h1 : (D.length : Int) = i
  · by_cases h2 : P = []
    · by_cases h3 : z = -1
      · have HE := Lib.hid (hI.kept (z := z) (.inr (.inr h3)))
        have hb1 : ((D.length : Int) == i) = true := by simp [h1]
        have hb2 : ((P.length : Int) == 0) = true := by simp [h2]
        have hb3 : (z != -1) = false := by simp [h3]
        clear hI h1 h2 h3
        unfold GPost
        go_enter Tryd.func30, Tryd.ntmps30
        go_wp2
        go_end0
        exact ⟨_, rfl, HE.out⟩
      · subst h1
        subst h2
        have HE := Lib.hid (hI.set (z := z) h3)
        have hb3 : (z != -1) = true := by simp [h3]
        have hb2 : (((([] : List Int).length : Nat) : Int) == 0) = true := rfl
        clear hI h3
        unfold GPost
        go_enter Tryd.func30, Tryd.ntmps30
        go_wp2
        go_end0
        exact ⟨_, rfl, HE.out⟩
    · have HE := Lib.hid (hI.kept (z := z) (.inr (.inl h2)))
      have hb1 : ((D.length : Int) == i) = true := by simp [h1]
      have hb2 : ((P.length : Int) == 0) = false := by simp [h2]
      clear hI h1 h2
      unfold GPost
      go_enter Tryd.func30, Tryd.ntmps30
      go_wp2
      go_end0
      exact ⟨_, rfl, HE.out⟩
  · have HE := Lib.hid (hI.kept (z := z) (.inl (fun e => h1 e.symm)))
    have hb1 : ((D.length : Int) == i) = false := by simp [h1]
    clear hI h1
    unfold GPost
    go_enter Tryd.func30, Tryd.ntmps30
    go_wp2
    go_end0
    exact ⟨_, rfl, HE.out⟩

/-- All first values. -/
def headV (r : List Int) : Int := max (r.headD 0) 0
def flatL (L : List (List Int)) : List Int := (L.filter (· ≠ [])).map headV
theorem flatL_len (L : List (List Int)) : (flatL L).length ≤ L.length := by
  unfold flatL
  rw [List.length_map]
  exact List.length_filter_le _ _
theorem flatL_next (D : List (List Int)) : flatL (D ++ [[]]) = flatL D := by simp [flatL]
theorem flatL_new (D : List (List Int)) (z : Int) : flatL (D ++ [[z]]) = flatL (D ++ [[]]) ++ [max z 0] := by simp [flatL, headV]
theorem flatL_more (D : List (List Int)) (P : List Int) (z : Int) (h : P ≠ []) : flatL (D ++ [P ++ [z]]) = flatL (D ++ [P]) := by
  cases P with
  | nil => exact absurd rfl h
  | cons a r => simp [flatL, headV]
structure FL (w0 W : World) (lb : Nat) (D : List (List Int)) (P : List Int) (vl : Value) : Prop where
  gi : GI w0 W lb (flatL (D ++ [P])) vl
theorem FL.below {w0 W : World} {lb : Nat} {D : List (List Int)} {P : List Int} {vl : Value} (h : FL w0 W lb D P vl) : Below lb w0 W := h.gi.below
theorem FL.step {w0 W : World} {lb : Nat} {D : List (List Int)} {P : List Int} {vl : Value} (h : FL w0 W lb D P vl) (_ : P ≠ []) : FL w0 W lb (D ++ [P]) [] vl := ⟨by rw [flatL_next]; exact h.gi⟩
def FPost (w0 : World) (lb : Nat) (D : List (List Int)) (P : List Int) (e : Ending) (w' : World) : Prop := ∃ v', e = .returned (.tuple #[]) ∧ FL w0 w' lb D P v'

set_option maxHeartbeats 2000000 in
theorem flat1_any (lb : Nat) (D : List (List Int)) (P : List Int) (z : Int) (vl : Value) (w0 w : World) (hI : FL w0 w lb D P vl) (hD : D.length ≤ 100) :
    Calls Tryd.prog 31 #[.int .i64 D.length, .int .i64 P.length, .int .i64 z, .pointer (some ⟨lb, 0, none⟩)] w (FPost w0 lb D (P ++ [z])) := by
  obtain ⟨i0, hi0, hz0, hz1, hz2⟩ := info_parts Tryd.infoInt
  by_cases h2 : P = []
  · subst h2
    have HG := Lib.hid hI.gi
    have hx : (flatL (D ++ [[]])).length ≤ 200 := Nat.le_trans (flatL_len _) (by simp; omega)
    have HNEW : Hid (∀ v w', GI w0 w' lb (flatL (D ++ [[]]) ++ [max z 0]) v → FL w0 w' lb D ([] ++ [z]) v) := Lib.hid fun v w' h => ⟨by rw [List.nil_append, flatL_new]; exact h⟩
    have hc := cell_of_one hI.gi.cell
    have hf := free_of_one hI.gi.cell
    have hlt := lt_of_block hI.gi.cell
    have hb2 : (((([] : List Int).length : Nat) : Int) == 0) = true := rfl
    obtain ⟨Av, cv, hv, _⟩ := own_form hI.gi.own
    subst hv
    clear hI
    generalize flatL (D ++ [[]]) = xs at *
    have HGR : Hid (∀ y w5 v2, (w.alloc (.cells #[.int .i64 y] 3)).grownBy w5 (Value.slice Av xs.length cv).ownBlock → w5.ownsRow (lb + 1) 3 1 v2 (xs.length + 1) (xs.map (Value.int .i64) ++ [.int .i64 y]) → w5.cell? ⟨lb, 0, none⟩ = some (.slice Av xs.length cv) ∧ w5.frozen? ⟨lb, 0, none⟩ = false ∧ GI w0 (w5.setCell ⟨lb, 0, none⟩ v2) lb (xs ++ [y]) v2) := Lib.hid fun y w5 v2 hg h2 => (HG.out.past ((Below.refl w.heap.size w).alloc (Nat.le_refl _) _)).grow hg h2
    have HOWN : Hid (∀ b, (w.alloc b).ownsRow (lb + 1) 3 1 (.slice Av xs.length cv) xs.length (xs.map (Value.int .i64))) := Lib.hid fun b => HG.out.own.alloc _
    clear HG
    obtain ⟨y, hy⟩ : ∃ y, max z 0 = y := ⟨_, rfl⟩
    rw [hy] at HNEW
    generalize hPL : xs.map (Value.int .i64) = PL at *
    clear hPL
    unfold FPost
    rcases Int.lt_or_le 0 z with hz | hz
    · obtain rfl : z = y := by omega
      have hz' : ¬ z ≤ 0 := by omega
      go_enter Tryd.func31, Tryd.ntmps31
      go_wp2_with (at_builtin; go_must (refine wpList_append_own _ rfl _ _ 31 rfl (lb + 1) 3 i0 (.int .i64 0) 1 8 Tryd.underlying31 hi0 hz0 hz1 hz2 rfl (by decide) (.slice Av xs.length cv) xs.length PL rfl (HOWN.out _) ⟨w.heap.size, 0, none⟩ 1 1 [.int .i64 z] rfl rfl (news1 _ _ _) (by simp [Value.oneCell']) (by unfold maxLen; omega) (by omega) (by simp; omega) ?_; intro v2 w5 hown2 hgrow2 _; obtain ⟨A5, c5, rfl, _⟩ := own_form hown2; obtain ⟨hc5, hf5, hp5⟩ := HGR.out _ w5 _ hgrow2 hown2; have HP5 := Lib.hid (HNEW.out _ _ hp5); clear hown2 hgrow2 hp5))
      go_end0
      first
        | exact ⟨_, rfl, HP5.out⟩
        | exact ⟨rfl, _, HP5.out⟩
        | trace_state
    · obtain rfl : 0 = y := by omega
      go_enter Tryd.func31, Tryd.ntmps31
      go_wp2_with (at_builtin; go_must (refine wpList_append_own _ rfl _ _ 31 rfl (lb + 1) 3 i0 (.int .i64 0) 1 8 Tryd.underlying31 hi0 hz0 hz1 hz2 rfl (by decide) (.slice Av xs.length cv) xs.length PL rfl (HOWN.out _) ⟨w.heap.size, 0, none⟩ 1 1 [.int .i64 0] rfl rfl (news1 _ _ _) (by simp [Value.oneCell']) (by unfold maxLen; omega) (by omega) (by simp; omega) ?_; intro v2 w5 hown2 hgrow2 _; obtain ⟨A5, c5, rfl, _⟩ := own_form hown2; obtain ⟨hc5, hf5, hp5⟩ := HGR.out _ w5 _ hgrow2 hown2; have HP5 := Lib.hid (HNEW.out _ _ hp5); clear hown2 hgrow2 hp5))
      go_end0
      first
        | exact ⟨_, rfl, HP5.out⟩
        | exact ⟨rfl, _, HP5.out⟩
        | trace_state
  · have hb2 : ((P.length : Int) == 0) = false := by simp [h2]
    have HE : Hid (FL w0 w lb D (P ++ [z]) vl) := Lib.hid ⟨by rw [flatL_more _ _ _ h2]; exact hI.gi⟩
    clear hI h2
    unfold FPost
    go_enter Tryd.func31, Tryd.ntmps31
    go_wp2
    go_end0
    exact ⟨_, rfl, HE.out⟩

end Go.Proofs.YtjhcjdkbichabaaDoor
