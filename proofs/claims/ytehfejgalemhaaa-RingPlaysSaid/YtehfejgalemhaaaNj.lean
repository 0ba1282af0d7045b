/- A ring that the call has made: Push, Pop, At in few words; the walk of awake. -/
import Derived.Test.YtehfejgalemhaaaNe
import Derived.Test.YtehfejgalemhaaaNi
namespace Go.Proofs.Ytehfejgalemhaaa
open Go.RowKit

/-- A ring of the call's own lies at D; nothing that lay in w0 has turned. -/
def RQ (w0 w : World) (D room : Nat) (gone : Int) (L : List (Int × Bool)) (M : Nat) : Prop :=
  ∃ A c xs, RM (fun _ => True) w D (.slice A L.length c) room gone L xs ∧ Below w0.heap.size w0 w ∧ (w0.heap.size ≤ D ∧ D < M) ∧ ∀ g, (Value.slice A L.length c).ownBlock = some g → w0.heap.size ≤ g ∧ g < M
theorem RQ.past {w0 w w' : World} {D room : Nat} {gone : Int} {L : List (Int × Bool)} {M : Nat} (h : RQ w0 w D room gone L M) (hb : Below w.heap.size w w') : RQ w0 w' D room gone L M := by
  obtain ⟨A, c, xs, h1, h2, h3, h4⟩ := h
  exact ⟨A, c, xs, h1.past hb, bel0 h2 hb, h3, h4⟩
theorem RQ.below {w0 w : World} {D room : Nat} {gone : Int} {L : List (Int × Bool)} {M : Nat} (h : RQ w0 w D room gone L M) : Below w0.heap.size w0 w := by
  obtain ⟨A, c, xs, h1, h2, h3, h4⟩ := h
  exact h2
/-- Rows stay. -/
def KR (w w' : World) : Prop := w.heap.size ≤ w'.heap.size ∧ ∀ P u v o, RVo P w u v o → RVo P w' u v o
theorem KR.of_below {w w' : World} (h : Below w.heap.size w w') : KR w w' := ⟨h.size, fun _ _ _ _ hr => hr.past h⟩
theorem KR.trans {w w1 w2 : World} (h : KR w w1) (h' : KR w1 w2) : KR w w2 := ⟨Nat.le_trans h.1 h'.1, fun P u v o hr => h'.2 P u v o (h.2 P u v o hr)⟩
def pushL (room : Nat) (L : List (Int × Bool)) (r : Int × Bool) : List (Int × Bool) := if L.length + 1 ≤ room then L ++ [r] else (L ++ [r]).tail
def pushG (room : Nat) (gone : Int) (L : List (Int × Bool)) : Int := if L.length + 1 ≤ room then gone else IntKind.u64.wrap (gone + 1)
def pushO (room : Nat) (L : List (Int × Bool)) (r : Int × Bool) : Option (Int × Bool) := if L.length + 1 ≤ room then none else some ((L ++ [r]).headD (0, false))
def okZ (room : Nat) (L : List (Int × Bool)) : Bool := !decide (L.length + 1 ≤ room)
theorem RVo.keptR {P S : Nat → Prop} {w w' : World} {u v : Value} {o : Option (Int × Bool)} (h : RVo P w u v o) (hk : KB S w w') (hn : NC S P w) : RVo P w' u v o := by
  cases o with
  | none => exact h
  | some r => exact RV.kept h hk hn
theorem push_q {P2 : Nat → Prop} (w0 w : World) (D room : Nat) (gone : Int) (L : List (Int × Bool)) (r : Int × Bool) (v1 v2 : Value) (M : Nat) (h : RQ w0 w D room gone L M) (hr : RV P2 w v1 v2 r) (hl : L.length ≤ 1000000) (hroom : room ≤ 1000000) :
    Calls Try.prog 16 #[.pointer (some ⟨D, 0, none⟩), .agg #[v1, v2]] w fun e w' => ∃ A n c, e = .returned (.tuple #[.agg #[.slice A n c, .bool (contO (pushO room L r))], .bool (okZ room L)]) ∧ RQ w0 w' D room (pushG room gone L) (pushL room L r) w'.heap.size ∧ RVo (fun _ => True) w' (.slice A n c) (.bool (contO (pushO room L r))) (pushO room L r) ∧ KR w w' ∧ KB (fun i => i < M) w w' := by
  obtain ⟨A, c, xs, h1, h2, h3, h4⟩ := h
  refine (push_any w D _ v1 v2 room gone L xs r h1 (fun _ _ => trivial) hr hl hroom).mono fun e w' hp => ?_
  obtain ⟨A', c', gone', L', xs', o1, o2, ok, rfl, q1, q2, q3, q4⟩ := hp
  have hb : Below w0.heap.size w0 w' := q2.to_below h2 fun i e => by
    rcases e with e | e
    · omega
    · exact (h4 i e.symm).1
  have hg : ∀ g, (Value.slice A' L'.length c').ownBlock = some g → w0.heap.size ≤ g ∧ g < w'.heap.size := fun g e => by
    refine ⟨?_, (q1.rows.lt g e).1⟩
    rcases q3 with q | ⟨g', q, q'⟩
    · exact (h4 g (q.symm.trans e)).1
    · rw [q] at e; injection e with e; have := h2.size; omega
  have h3 : w0.heap.size ≤ D ∧ D < w'.heap.size := ⟨h3.1, q1.lt⟩
  have hk : KR w w' ∧ KB (fun i => i < M) w w' := ⟨⟨q2.size, fun P u v o ho => ho.keptR q2 (h1.nc P)⟩, q2.wide _ fun i e => by
    rcases e with e | e
    · omega
    · exact (h4 i e.symm).2⟩
  rcases q4 with ⟨f1, rfl, rfl, rfl, rfl, rfl⟩ | ⟨f1, rfl, rfl, rfl, f5⟩
  · have e1 : okZ room L = false := by unfold okZ; simp [f1]
    have e2 : pushO room L r = none := if_pos f1
    have e3 : pushL room L r = L ++ [r] := if_pos f1
    have e4 : pushG room gone' L = gone' := if_pos f1
    rw [e1, e2, e3, e4]
    exact ⟨none, 0, 0, rfl, ⟨A', c', xs', q1, hb, h3, hg⟩, ⟨rfl, rfl⟩, hk⟩
  · have f1' : ¬ L.length + 1 ≤ room := by omega
    have e1 : okZ room L = true := by unfold okZ; simp; omega
    have e2 : pushO room L r = some ((L ++ [r]).headD (0, false)) := if_neg f1'
    have e3 : pushL room L r = (L ++ [r]).tail := if_neg f1'
    have e4 : pushG room gone L = IntKind.u64.wrap (gone + 1) := if_neg f1'
    rw [e1, e2, e3, e4]
    obtain ⟨b0, c0, rfl, rfl, _⟩ := f5.cells
    exact ⟨_, _, _, rfl, ⟨A', c', xs', q1, hb, h3, hg⟩, f5, hk⟩
theorem pop_q (w0 w : World) (D room : Nat) (gone : Int) (L : List (Int × Bool)) (r : Int × Bool) (M : Nat) (h : RQ w0 w D room gone (L ++ [r]) M) (hl : L.length ≤ 1000000) :
    Calls Try.prog 21 #[.pointer (some ⟨D, 0, none⟩)] w fun e w' => ∃ A n c, e = .returned (.tuple #[.agg #[.slice A n c, .bool r.2], .bool true]) ∧ RQ w0 w' D room gone L w'.heap.size ∧ RVo (fun _ => True) w' (.slice A n c) (.bool r.2) (some r) ∧ KR w w' ∧ KB (fun i => i < M) w w' := by
  obtain ⟨A, c, xs, h1, h2, h3, h4⟩ := h
  refine (pop_some w D _ room gone L r xs h1 hl).mono fun e w' hp => ?_
  obtain ⟨A', c', xs', o1, o2, rfl, q1, q2, q3, q4⟩ := hp
  obtain ⟨b0, c0, rfl, rfl, _⟩ := q2.cells
  exact ⟨_, _, _, rfl, ⟨A', c', xs', q1, q3.to_below h2 (fun i e => by
    rcases e with e | e
    · omega
    · exact (h4 i e.symm).1), ⟨h3.1, q1.lt⟩, fun g e => ⟨(h4 g (q4.symm.trans e)).1, (q1.rows.lt g e).1⟩⟩, q2, ⟨q3.size, fun P u v o ho => ho.keptR q3 (h1.nc P)⟩, q3.wide _ fun i e => by
    rcases e with e | e
    · omega
    · exact (h4 i e.symm).2⟩
theorem new_q (room : Nat) (hroom : room ≤ 100000) (w : World) :
    Calls Try.prog 9 #[.int .i64 room] w fun e w' => e = .returned (.tuple #[.pointer (some ⟨w.heap.size, 0, none⟩), .int .i64 0]) ∧ RQ w w' w.heap.size room 0 [] w'.heap.size :=
  (new_any room hroom w).mono fun _ _ ⟨h1, h2, h3⟩ => ⟨h1, none, 0, [], h3 _, h2, ⟨Nat.le_refl _, (h3 fun _ => True).lt⟩, fun g e => by simp [Value.ownBlock] at e⟩
theorem len_q (w0 w : World) (D room : Nat) (gone : Int) (L : List (Int × Bool)) (M : Nat) (h : RQ w0 w D room gone L M) : Calls Try.prog 11 #[.pointer (some ⟨D, 0, none⟩)] w fun e w' => e = .returned (.int .i64 L.length) ∧ w' = w := by
  obtain ⟨A, c, xs, h1, _⟩ := h
  exact len_any w D _ room gone L xs h1
theorem gone_q (w0 w : World) (D room : Nat) (gone : Int) (L : List (Int × Bool)) (M : Nat) (h : RQ w0 w D room gone L M) : Calls Try.prog 12 #[.pointer (some ⟨D, 0, none⟩)] w fun e w' => e = .returned (.int .u64 gone) ∧ w' = w := by
  obtain ⟨A, c, xs, h1, _⟩ := h
  exact gone_any w D _ room gone L xs h1
theorem row_q (n : Int) (hn : -2147483648 ≤ n ∧ n ≤ 2147483647) (w : World) :
    Calls Try.prog 17 #[.int .i64 n] w fun e w' => ∃ g c, e = .returned (.agg #[.slice (some ⟨g, 0, none⟩) 1 c, .bool (rowZ n).2]) ∧ Below w.heap.size w w' ∧ RV (fun _ => True) w' (.slice (some ⟨g, 0, none⟩) 1 c) (.bool (rowZ n).2) (rowZ n) :=
  (row_any n hn w).mono fun _ _ ⟨g, c, h1, h2, h3⟩ => ⟨g, c, h1, h2, h3.mono fun _ _ _ => trivial⟩

set_option maxRecDepth 100000 in
set_option maxHeartbeats 4000000 in
theorem awake_any (w : World) : Calls Try.prog 8 #[] w fun e w' => e = .returned (.bool true) ∧ Below w.heap.size w w' := by
  have HNEW : Hid (Calls Try.prog 9 #[.int .i64 2] w fun e w' => e = .returned (.tuple #[.pointer (some ⟨w.heap.size, 0, none⟩), .int .i64 0]) ∧ RQ w w' w.heap.size 2 0 [] w'.heap.size) := Lib.hid (new_q 2 (by decide) w)
  have HR1 : Hid (∀ W, Calls Try.prog 17 #[.int .i64 1] W fun e w' => ∃ g c, e = .returned (.agg #[.slice (some ⟨g, 0, none⟩) 1 c, .bool (rowZ 1).2]) ∧ Below W.heap.size W w' ∧ RV (fun _ => True) w' (.slice (some ⟨g, 0, none⟩) 1 c) (.bool (rowZ 1).2) (rowZ 1)) := Lib.hid fun W => row_q 1 (by decide) W
  have HR2 : Hid (∀ W, Calls Try.prog 17 #[.int .i64 2] W fun e w' => ∃ g c, e = .returned (.agg #[.slice (some ⟨g, 0, none⟩) 1 c, .bool (rowZ 2).2]) ∧ Below W.heap.size W w' ∧ RV (fun _ => True) w' (.slice (some ⟨g, 0, none⟩) 1 c) (.bool (rowZ 2).2) (rowZ 2)) := Lib.hid fun W => row_q 2 (by decide) W
  have HR3 : Hid (∀ W, Calls Try.prog 17 #[.int .i64 3] W fun e w' => ∃ g c, e = .returned (.agg #[.slice (some ⟨g, 0, none⟩) 1 c, .bool (rowZ 3).2]) ∧ Below W.heap.size W w' ∧ RV (fun _ => True) w' (.slice (some ⟨g, 0, none⟩) 1 c) (.bool (rowZ 3).2) (rowZ 3)) := Lib.hid fun W => row_q 3 (by decide) W
  generalize hr1 : rowZ 1 = r1 at *
  generalize hr2 : rowZ 2 = r2 at *
  generalize hr3 : rowZ 3 = r3 at *
  clear hr1 hr2 hr3
  go_enter Try.func8, Try.ntmps8
  go_wp2_with (first
    | (go_at_call 9; go_must (with_reducible refine HNEW.out.mono ?_; rintro e1 w1 ⟨rfl, hq1⟩; have HQ1 := Lib.hid hq1; clear hq1 HNEW))
    | (go_at_call 17; (with_reducible refine (HR1.out _).mono ?_); rintro e2 w2 ⟨ga, ca, rfl, hb2, hra⟩; have HQ2 := Lib.hid (HQ1.out.past hb2); have HRA := Lib.hid hra; clear hra hb2 HQ1)
    | (go_at_call 16; (with_reducible refine (push_q w _ _ _ _ _ r1 _ _ _ HQ2.out HRA.out (by decide) (by decide)).mono ?_); rintro e3 w3 ⟨A3, n3, c3, rfl, hq3, _, _, _⟩; have HQ3 : Hid (RQ w w3 w.heap.size 2 0 [r1] w3.heap.size) := Lib.hid hq3; clear hq3 HQ2 HRA)
    | (go_at_call 17; (with_reducible refine (HR2.out _).mono ?_); rintro e4 w4 ⟨gb, cb, rfl, hb4, hrb⟩; have HQ4 := Lib.hid (HQ3.out.past hb4); have HRB := Lib.hid hrb; clear hrb hb4 HQ3)
    | (go_at_call 16; (with_reducible refine (push_q w _ _ _ _ _ r2 _ _ _ HQ4.out HRB.out (by simp) (by decide)).mono ?_); rintro e5 w5 ⟨A5, n5, c5, rfl, hq5, _, _, _⟩; have HQ5 : Hid (RQ w w5 w.heap.size 2 0 [r1, r2] w5.heap.size) := Lib.hid hq5; clear hq5 HQ4 HRB)
    | (go_at_call 17; (with_reducible refine (HR3.out _).mono ?_); rintro e6 w6 ⟨gc, cc, rfl, hb6, hrc⟩; have HQ6 := Lib.hid (HQ5.out.past hb6); have HRC := Lib.hid hrc; clear hrc hb6 HQ5)
    | (go_at_call 16; (with_reducible refine (push_q w _ _ _ _ _ r3 _ _ _ HQ6.out HRC.out (by simp) (by decide)).mono ?_); rintro e7 w7 ⟨A7, n7, c7, rfl, hq7, ho7, _, _⟩; have HQ7 : Hid (RQ w w7 w.heap.size 2 1 ([r2] ++ [r3]) w7.heap.size) := Lib.hid hq7; have HO7 : Hid (RVo (fun _ => True) w7 (.slice A7 n7 c7) (.bool r1.2) (some r1)) := Lib.hid ho7; have hz1 : okZ 2 [r1, r2] = true := rfl; have hz2 : contO (pushO 2 [r1, r2] r3) = r1.2 := rfl; rw [hz1, hz2]; clear hq7 ho7 HQ6 HRC hz1 hz2; have HP7 : Hid (∀ o, RQ w (w7.alloc o) w.heap.size 2 1 ([r2] ++ [r3]) w7.heap.size) := Lib.hid fun o => HQ7.out.past ((Below.refl _ _).alloc (Nat.le_refl _) o))
    | (go_at_call 21; (with_reducible refine (pop_q w _ _ _ _ _ r3 _ (HP7.out _) (by simp)).mono ?_); rintro e8 w8 ⟨A8, n8, c8, rfl, hq8, ho8, hk8, hb8⟩; have HQ8 := Lib.hid hq8; have HO8 := Lib.hid ho8; have HO7' := Lib.hid (hk8.2 _ _ _ _ (HO7.out.past ((Below.refl _ _).alloc (Nat.le_refl _) _))); have hh8 := (hb8.block w7.heap.size (by simp) (Nat.lt_irrefl _)).trans (heap_alloc_new w7 _); have HH8 := Lib.hid hh8; clear hq8 ho8 hk8 hb8 hh8 HQ7 HO7 HP7))
  have HQ9 : Hid (∀ W, Below (w8.alloc (.cells #[.slice A8 n8 c8, .bool r3.2] 43)).heap.size (w8.alloc (.cells #[.slice A8 n8 c8, .bool r3.2] 43)) W → RQ w W w.heap.size 2 1 [r2] w8.heap.size) := Lib.hid fun W hW => HQ8.out.past (bel1 (Below.refl _ _) hW)
  have HO9 : Hid (∀ W, Below (w8.alloc (.cells #[.slice A8 n8 c8, .bool r3.2] 43)).heap.size (w8.alloc (.cells #[.slice A8 n8 c8, .bool r3.2] 43)) W → RVo (fun _ => True) W (.slice A8 n8 c8) (.bool r3.2) (some r3) ∧ RVo (fun _ => True) W (.slice A7 n7 c7) (.bool r1.2) (some r1)) := Lib.hid fun W hW => ⟨HO8.out.past (bel1 (Below.refl _ _) hW), HO7'.out.past (bel1 (Below.refl _ _) hW)⟩
  have h9 := heap_alloc_new w8 (.cells #[.slice A8 n8 c8, .bool r3.2] 43)
  have hlt7 : w7.heap.size < w8.heap.size := (Array.getElem?_eq_some_iff.1 HH8.out).1
  have h9' := (heap_alloc_old w8 (.cells #[.slice A8 n8 c8, .bool r3.2] 43) hlt7).trans HH8.out
  have hsz9 : w8.heap.size < (w8.alloc (.cells #[.slice A8 n8 c8, .bool r3.2] 43)).heap.size := by simp
  clear HQ8 HO8 HO7' HH8
  generalize w8.alloc (.cells #[.slice A8 n8 c8, .bool r3.2] 43) = w9 at *
  generalize w8.heap.size = B8 at *
  generalize w7.heap.size = B7 at *
  have hS : (w9.cell? ⟨B7, 0, none⟩ = some (.slice A7 n7 c7) ∧ w9.cell? ⟨B7, 1, none⟩ = some (.bool r1.2) ∧ w9.cell? ⟨B8, 0, none⟩ = some (.slice A8 n8 c8) ∧ w9.cell? ⟨B8, 1, none⟩ = some (.bool r3.2)) ∧ (B7 < w9.heap.size ∧ B7 < w9.heap.size ∧ B8 < w9.heap.size ∧ B8 < w9.heap.size) ∧ Below w9.heap.size w9 w9 := ⟨⟨cell_of_row _ _ 0 _ _ _ h9', cell_of_row _ _ 1 _ _ _ h9', cell_of_row _ _ 0 _ _ _ h9, cell_of_row _ _ 1 _ _ _ h9⟩, ⟨by omega, by omega, by omega, by omega⟩, Below.refl _ _⟩
  have hSd := four_step (a1 := ⟨B7, 0, none⟩) (a2 := ⟨B7, 1, none⟩) (a3 := ⟨B8, 0, none⟩) (a4 := ⟨B8, 1, none⟩) hS (Below.refl w9.heap.size w9).drew
  have HB9 : Hid (Below w.heap.size w w9) := Lib.hid (HQ9.out _ (Below.refl _ _)).below
  have HONE : Hid (∀ W g c, Below w9.heap.size w9 W → RV (fun _ => True) W (.slice (some ⟨g, 0, none⟩) 1 c) (.bool r1.2) r1 → Calls Try.prog 20 #[.agg #[.slice A7 n7 c7, .bool r1.2], .agg #[.slice (some ⟨g, 0, none⟩) 1 c, .bool r1.2]] W fun e w' => e = .returned (.bool true) ∧ Below W.heap.size W w') := Lib.hid fun W g c hW hr => one_any _ _ _ _ (some r1) W (HO9.out W hW).2 hr
  have HONF : Hid (∀ W g c, Below w9.heap.size w9 W → RV (fun _ => True) W (.slice (some ⟨g, 0, none⟩) 1 c) (.bool r3.2) r3 → Calls Try.prog 20 #[.agg #[.slice A8 n8 c8, .bool r3.2], .agg #[.slice (some ⟨g, 0, none⟩) 1 c, .bool r3.2]] W fun e w' => e = .returned (.bool true) ∧ Below W.heap.size W w') := Lib.hid fun W g c hW hr => one_any _ _ _ _ (some r3) W (HO9.out W hW).1 hr
  have HLEN : Hid (∀ W, Below w9.heap.size w9 W → Calls Try.prog 11 #[.pointer (some ⟨w.heap.size, 0, none⟩)] W fun e w' => e = .returned (.int .i64 1) ∧ w' = W) := Lib.hid fun W hW => len_q w W _ _ _ _ _ (HQ9.out W hW)
  have HGONE : Hid (∀ W, Below w9.heap.size w9 W → Calls Try.prog 12 #[.pointer (some ⟨w.heap.size, 0, none⟩)] W fun e w' => e = .returned (.int .u64 1) ∧ w' = W) := Lib.hid fun W hW => gone_q w W _ _ _ _ _ (HQ9.out W hW)
  clear hS h9 h9' hsz9 hlt7 HO9 HQ9
  generalize hqa : r1.2 = qa at *
  generalize hqc : r3.2 = qc at *
  have HQA := Lib.hid hqa
  have HQC := Lib.hid hqc
  clear hqa hqc
  go_region_held3 (fun W => (W.cell? ⟨B7, 0, none⟩ = some (.slice A7 n7 c7) ∧ W.cell? ⟨B7, 1, none⟩ = some (.bool qa) ∧ W.cell? ⟨B8, 0, none⟩ = some (.slice A8 n8 c8) ∧ W.cell? ⟨B8, 1, none⟩ = some (.bool qc)) ∧ (B7 < W.heap.size ∧ B7 < W.heap.size ∧ B8 < W.heap.size ∧ B8 < W.heap.size) ∧ Below w9.heap.size w9 W)
    (first | exact hSd | exact four_step (a1 := ⟨B7, 0, none⟩) (a2 := ⟨B7, 1, none⟩) (a3 := ⟨B8, 0, none⟩) (a4 := ⟨B8, 1, none⟩) hSd hbx | exact four_step (a1 := ⟨B7, 0, none⟩) (a2 := ⟨B7, 1, none⟩) (a3 := ⟨B8, 0, none⟩) (a4 := ⟨B8, 1, none⟩) (by assumption) hbx | assumption)
    (first
      | (go_at_call 17; (with_reducible refine (HR1.out _).mono ?_); rintro e6 w6 ⟨ga, ca, rfl, hbx, hra⟩; have HRA := Lib.hid hra; clear hra)
      | (go_at_call 17; (with_reducible refine (HR3.out _).mono ?_); rintro e6 w6 ⟨gc, cc, rfl, hbx, hrc⟩; have HRC := Lib.hid hrc; clear hrc)
      | (go_at_call 20; (with_reducible refine (HONE.out _ _ _ ?_ HRA.out).mono ?_); (first | exact hSd.2.2 | exact four_below (by assumption)); rintro e6 w6 ⟨rfl, hbx⟩)
      | (go_at_call 20; (with_reducible refine (HONF.out _ _ _ ?_ HRC.out).mono ?_); (first | exact hSd.2.2 | exact four_below (by assumption)); rintro e6 w6 ⟨rfl, hbx⟩)
      | (go_at_call 11; (with_reducible refine (HLEN.out _ ?_).mono ?_); (first | exact hSd.2.2 | exact four_below (by assumption)); rintro e6 w6 ⟨rfl, rfl⟩)
      | (go_at_call 12; (with_reducible refine (HGONE.out _ ?_).mono ?_); (first | exact hSd.2.2 | exact four_below (by assumption)); rintro e6 w6 ⟨rfl, rfl⟩))
  all_goals
    have HBE := Lib.hid (bel0 HB9.out (four_below (a1 := ⟨B7, 0, none⟩) (a2 := ⟨B7, 1, none⟩) (a3 := ⟨B8, 0, none⟩) (a4 := ⟨B8, 1, none⟩) (by assumption)))
    go_wp2
    go_ret
    exact ⟨rfl, HBE.out⟩
end Go.Proofs.Ytehfejgalemhaaa
