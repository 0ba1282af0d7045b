/- The walk of Clean's function. -/
import Derived.Test.YtjhcjdkbichabaaDoorPf
namespace Go.Proofs.YtjhcjdkbichabaaDoor
open Go.RowKit

/-- The variable of the groups lies in block lb: D are done, P is the row that grows. -/
structure CI (w0 W : World) (lb : Nat) (D : List (List Int)) (P : List Int) (vl : Value) : Prop where
  below : Below lb w0 W
  cell : W.heap[lb]? = some (.cells #[vl] 23 (0, 0))
  own : (P = [] ∧ ∃ vals, W.ownsRow (lb + 1) 31 1 vl D.length vals ∧ RW W (lb + 1) W.heap.size D vals) ∨ (P ≠ [] ∧ ∃ C vals vc, PG W (lb + 1) C vl D vals P vc)
theorem CI.past {w0 W W' : World} {lb : Nat} {D : List (List Int)} {P : List Int} {vl : Value} (h : CI w0 W lb D P vl) (hb : Below W.heap.size W W') : CI w0 W' lb D P vl := by
  refine ⟨h.below.trans (hb.mono (Nat.le_of_lt (lt_of_block h.cell))), (hb.block lb (lt_of_block h.cell)).trans h.cell, ?_⟩
  rcases h.own with ⟨h0, vals, h1, h2⟩ | ⟨h0, C, vals, vc, h1⟩
  · exact .inl ⟨h0, vals, own_past h1 hb, (h2.past hb).mono hb.size⟩
  · exact .inr ⟨h0, C, vals, vc, h1.past hb⟩
theorem CI.step {w0 W : World} {lb : Nat} {D : List (List Int)} {P : List Int} {vl : Value} (h : CI w0 W lb D P vl) (hP : P ≠ []) : CI w0 W lb (D ++ [P]) [] vl := by
  refine ⟨h.below, h.cell, .inl ⟨rfl, ?_⟩⟩
  rcases h.own with ⟨h0, _⟩ | ⟨_, C, vals, vc, h1⟩
  · exact absurd h0 hP
  · exact ⟨vals ++ [vc], by rw [List.length_append]; exact h1.outer, h1.all⟩
/-- Behind append of a row that isn't there yet, and its store. -/
theorem ci_new {w0 W w5 : World} {lb : Nat} {D : List (List Int)} {vl v2 : Value} {vals : List Value} (hb : Below lb w0 W) (hc : W.heap[lb]? = some (.cells #[vl] 23 (0, 0))) (ho : W.ownsRow (lb + 1) 31 1 vl D.length vals) (hr : RW W (lb + 1) W.heap.size D vals) (hg : W.grownBy w5 vl.ownBlock) (h2 : w5.ownsRow (lb + 1) 31 1 v2 (D.length + 1) (vals ++ [.slice none 0 0])) :
    w5.cell? ⟨lb, 0, none⟩ = some vl ∧ w5.frozen? ⟨lb, 0, none⟩ = false ∧ Below lb w0 (w5.setCell ⟨lb, 0, none⟩ v2) ∧ (w5.setCell ⟨lb, 0, none⟩ v2).heap[lb]? = some (.cells #[v2] 23 (0, 0)) ∧ PG (w5.setCell ⟨lb, 0, none⟩ v2) (lb + 1) W.heap.size v2 D vals [] (.slice none 0 0) ∧ W.heap.size ≤ (w5.setCell ⟨lb, 0, none⟩ v2).heap.size := by
  have hlt := lt_of_block hc
  have hne : some lb ≠ vl.ownBlock := fun e => by have := (ho.lt lb e.symm).1; omega
  have hc5 : w5.heap[lb]? = some (.cells #[vl] 23 (0, 0)) := (hg.block lb hlt hne).trans hc
  have hb5 : Below lb w0 w5 := hb.grown hg (Nat.le_of_lt hlt) (fun k e => by have := (ho.lt k e).1; omega)
  have hr5 := hr.keptO ho hg
  have hs : w5.grownBy (w5.setCell ⟨lb, 0, none⟩ v2) (some lb) := ⟨rfl, rfl, rfl, by simp, fun k _ hne => heap_setCell_other w5 ⟨lb, 0, none⟩ k v2 (fun e => hne (by rw [e]))⟩
  exact ⟨cell_of_one hc5, free_of_one hc5, hb5.setCell (p := ⟨lb, 0, none⟩) (Nat.le_refl _) _, one_setCell hc5, ⟨h2.kept hs (.inr (fun e => by have := (h2.lt lb e).1; omega)), hr5.keptT hs hc5 ne_iii, World.ownsRow_nil _ _ _ _, hlt⟩, by simpa using hg.size⟩
/-- Behind append to the row that grows, and its store into the row's place. -/
theorem ci_grow {w0 W w5 : World} {lb C g c : Nat} {D : List (List Int)} {P P2 : List Int} {vals : List Value} {vc v2 : Value} (hb : Below lb w0 W) (hc : W.heap[lb]? = some (.cells #[.slice (some ⟨g, 0, none⟩) (D.length + 1) c] 23 (0, 0))) (hp : PG W (lb + 1) C (.slice (some ⟨g, 0, none⟩) (D.length + 1) c) D vals P vc) (hg : W.grownBy w5 vc.ownBlock) (h2 : w5.ownsRow C 3 1 v2 P2.length (P2.map (Value.int .i64))) (hP2 : P2 ≠ []) :
    w5.cell? ⟨lb, 0, none⟩ = some (.slice (some ⟨g, 0, none⟩) (D.length + 1) c) ∧ w5.cell? ⟨g, D.length, none⟩ = some vc ∧ w5.frozen? ⟨g, D.length, none⟩ = false ∧ CI w0 (w5.setCell ⟨g, D.length, none⟩ v2) lb D P2 (.slice (some ⟨g, 0, none⟩) (D.length + 1) c) := by
  have hlt := lt_of_block hc
  obtain ⟨h1, h3, h4, _⟩ := hp.grow hg h2
  have hne : some lb ≠ vc.ownBlock := fun e => by have := (hp.cur.lt lb e.symm).1; have := hp.le; omega
  have hc5 := (hg.block lb hlt hne).trans hc
  have hgB : lb + 1 ≤ g := (hp.outer.lt g rfl).1
  have hb5 : Below lb w0 w5 := hb.grown hg (Nat.le_of_lt hlt) (fun k e => by have := (hp.cur.lt k e).1; have := hp.le; omega)
  exact ⟨cell_of_one hc5, h1, h3, hb5.setCell (p := ⟨g, D.length, none⟩) (by show lb ≤ g; omega) _, (heap_setCell_other w5 ⟨g, D.length, none⟩ lb v2 (by show lb ≠ g; omega)).trans hc5, .inr ⟨hP2, C, vals, v2, h4⟩⟩
def CPost (w0 : World) (lb : Nat) (D : List (List Int)) (P : List Int) (e : Ending) (w' : World) : Prop := ∃ v', e = .returned (.tuple #[]) ∧ CI w0 w' lb D P v'

set_option maxHeartbeats 4000000 in
theorem clean1_any (lb : Nat) (D : List (List Int)) (P : List Int) (z : Int) (vl : Value) (w0 w : World) (hI : CI w0 w lb D P vl) (hD : D.length ≤ 100) (hPl : P.length ≤ 100) :
    Calls Tryd.prog 27 #[.int .i64 D.length, .int .i64 P.length, .int .i64 z, .pointer (some ⟨lb, 0, none⟩)] w (CPost w0 lb D (P ++ [z])) := by
  obtain ⟨i0, hi0, hz0, hz1, hz2⟩ := info_parts Tryd.infoInt
  obtain ⟨i1, hi1, hy0, hy1, hy2⟩ := info_parts Tryd.infoInts
  have hcl := cell_of_one hI.cell
  have hfl := free_of_one hI.cell
  have hlt := lt_of_block hI.cell
  have HB := Lib.hid hI.below
  have HC := Lib.hid hI.cell
  rcases hI.own with ⟨rfl, vals, ho, hr⟩ | ⟨hP, C, vals, vc, hp⟩
  · have HNIL : Hid ((w.alloc (.cells #[.slice none 0 0] 31)).ownsRow (lb + 1) 31 1 vl D.length vals) := Lib.hid (ho.alloc _)
    obtain ⟨Av, cv, hvl, _⟩ := own_form ho
    have HNW : Hid (∀ w5 v2, (w.alloc (.cells #[.slice none 0 0] 31)).grownBy w5 vl.ownBlock → w5.ownsRow (lb + 1) 31 1 v2 (D.length + 1) (vals ++ [.slice none 0 0]) → w5.cell? ⟨lb, 0, none⟩ = some vl ∧ w5.frozen? ⟨lb, 0, none⟩ = false ∧ Below lb w0 (w5.setCell ⟨lb, 0, none⟩ v2) ∧ (w5.setCell ⟨lb, 0, none⟩ v2).heap[lb]? = some (.cells #[v2] 23 (0, 0)) ∧ PG (w5.setCell ⟨lb, 0, none⟩ v2) (lb + 1) (w.alloc (.cells #[.slice none 0 0] 31)).heap.size v2 D vals [] (.slice none 0 0) ∧ (w.alloc (.cells #[.slice none 0 0] 31)).heap.size ≤ (w5.setCell ⟨lb, 0, none⟩ v2).heap.size) := Lib.hid fun w5 v2 hg h2 =>
      ci_new (belA' HB.out hlt) (alloc_block HC.out) (ho.alloc _) (rw_alloc hr) hg h2
    have hj0 : (((([] : List Int).length : Nat) : Int) == 0) = true := rfl
    subst hvl
    have HDz : Hid (D.length ≤ 100) := Lib.hid hD
    clear hI ho hr HB HC
    unfold CPost
    go_enter Tryd.func27, Tryd.ntmps27
    go_wp2_with (at_builtin; go_must (refine wpList_append_own _ rfl _ _ 23 rfl (lb + 1) 31 i1 (.slice none 0 0) 1 24 Tryd.underlying23 hi1 hy0 hy1 hy2 rfl (by decide) (.slice Av D.length cv) D.length vals rfl HNIL.out ⟨w.heap.size, 0, none⟩ 1 1 [.slice none 0 0] rfl rfl (news1 w _ _) (by simp [Value.oneCell']) (by unfold maxLen; omega) (by omega) (by simp; omega) ?_; intro v2 w5 hown2 hgrow2 _; obtain ⟨A5, c5, rfl, hA5⟩ := own_form hown2; obtain ⟨g, rfl⟩ := hA5 (by omega); obtain ⟨hc5, hf5, hb5, hcl5, hpg5, hsz5⟩ := HNW.out w5 _ hgrow2 hown2; have HPG := Lib.hid hpg5; have HB5 := Lib.hid hb5; have HC5 := Lib.hid hcl5; have HSZ := Lib.hid hsz5; clear hsz5 hown2 hgrow2 hA5 hpg5 hb5 hcl5))
    have hcl2 := cell_of_one HC5.out
    obtain ⟨g', c', eg, hgB, hgz, hco, hcf⟩ := HPG.out.slot
    injection eg with eg1 _ eg3
    injection eg1 with eg1
    injection eg1 with eg1
    subst eg1; subst eg3
    generalize w5.setCell ⟨lb, 0, none⟩ (.slice (some ⟨g, 0, none⟩) (D.length + 1) c5) = W2 at *
    have hlt2 := lt_of_block HC5.out
    have HCU : Hid ((W2.alloc (.cells #[.int .i64 z] 3)).ownsRow (w.alloc (.cells #[.slice none 0 0] 31)).heap.size 3 1 (.slice none 0 0) 0 []) := Lib.hid (HPG.out.cur.alloc _)
    have hCz : (w.alloc (.cells #[.slice none 0 0] 31)).heap.size ≤ W2.heap.size := HSZ.out
    have HGR : Hid (∀ w5 v2, (W2.alloc (.cells #[.int .i64 z] 3)).grownBy w5 none → w5.ownsRow (w.alloc (.cells #[.slice none 0 0] 31)).heap.size 3 1 v2 1 [.int .i64 z] → w5.cell? ⟨lb, 0, none⟩ = some (.slice (some ⟨g, 0, none⟩) (D.length + 1) c5) ∧ w5.cell? ⟨g, D.length, none⟩ = some (.slice none 0 0) ∧ w5.frozen? ⟨g, D.length, none⟩ = false ∧ CI w0 (w5.setCell ⟨g, D.length, none⟩ v2) lb D ([] ++ [z]) (.slice (some ⟨g, 0, none⟩) (D.length + 1) c5)) := Lib.hid fun w6 v2 hg h2 =>
      ci_grow (belA' HB5.out hlt2) (alloc_block HC5.out) (HPG.out.past ((Below.refl W2.heap.size W2).alloc (Nat.le_refl _) _)) hg h2 (by simp)
    clear HPG HB5 HC5 hc5 hf5 hcl hfl
    generalize hNN : D.length + 1 = N at *
    have hdN : D.length < N := by omega
    have hdi : (D.length : Int) < N := by omega
    clear hNN
    go_region_law (first
      | ((refine step_append_own rfl _ _ 31 rfl (w.alloc (.cells #[.slice none 0 0] 31)).heap.size 3 i0 (.int .i64 0) 1 8 Tryd.underlying31 hi0 hz0 hz1 hz2 rfl (by decide) (.slice none 0 0) 0 [] rfl HCU.out ⟨W2.heap.size, 0, none⟩ 1 1 [.int .i64 z] rfl rfl (news1 W2.drew _ _) (by simp [Value.oneCell']) (by unfold maxLen; omega) (by omega) (by simp at hCz ⊢; omega) ?_); intro v2 w6 hown2 hgrow2; obtain ⟨A6, c6, rfl, _⟩ := own_form hown2; obtain ⟨hc5, hr5, hf5, hp5⟩ := HGR.out w6 _ (grown_drew hgrow2) hown2; have HP5 := Lib.hid hp5; clear hown2 hgrow2 hp5))
    all_goals
      go_end0
      exact ⟨_, rfl, HP5.out⟩
  · obtain ⟨g, c, rfl, hgB, hgz, hco, hcf⟩ := hp.slot
    obtain ⟨Ac, cc, rfl, _⟩ := hp.form
    have hCz : C ≤ w.heap.size ∨ w.heap.size < C := by omega
    have hPpos : 0 < P.length := List.length_pos_iff.2 hP
    have HCU : Hid ((w.alloc (.cells #[.int .i64 z] 3)).ownsRow C 3 1 (.slice Ac P.length cc) P.length (P.map (Value.int .i64))) := Lib.hid (hp.cur.alloc _)
    have hCz : C ≤ w.heap.size := by
      obtain ⟨Aq, cq, eq, hq⟩ := hp.form
      obtain ⟨gq, hgq⟩ := hq hPpos
      injection eq with e1 _ _
      have := hp.cur.lt gq (by rw [e1, hgq]; rfl)
      omega
    have HGR : Hid (∀ w5 v2, (w.alloc (.cells #[.int .i64 z] 3)).grownBy w5 (Value.slice Ac P.length cc).ownBlock → w5.ownsRow C 3 1 v2 (P.length + 1) (P.map (Value.int .i64) ++ [.int .i64 z]) → w5.cell? ⟨lb, 0, none⟩ = some (.slice (some ⟨g, 0, none⟩) (D.length + 1) c) ∧ w5.cell? ⟨g, D.length, none⟩ = some (.slice Ac P.length cc) ∧ w5.frozen? ⟨g, D.length, none⟩ = false ∧ CI w0 (w5.setCell ⟨g, D.length, none⟩ v2) lb D (P ++ [z]) (.slice (some ⟨g, 0, none⟩) (D.length + 1) c)) := Lib.hid fun w5 v2 hg h2 =>
      ci_grow (belA' HB.out hlt) (alloc_block HC.out) (hp.past ((Below.refl w.heap.size w).alloc (Nat.le_refl _) _)) hg (by rw [List.length_append, List.map_append]; exact h2) (by simp)
    have hj0 : ((P.length : Int) == 0) = false := by simp; omega
    clear hI hp HB HC
    generalize hNN : D.length + 1 = N at *
    have hdN : D.length < N := by omega
    have hdi : (D.length : Int) < N := by omega
    clear hNN
    generalize hPL : P.map (Value.int .i64) = PL at *
    clear hPL
    unfold CPost
    go_enter Tryd.func27, Tryd.ntmps27
    go_wp2
    go_region_law (first
      | ((refine step_append_own rfl _ _ 31 rfl C 3 i0 (.int .i64 0) 1 8 Tryd.underlying31 hi0 hz0 hz1 hz2 rfl (by decide) (.slice Ac P.length cc) P.length PL rfl HCU.out ⟨w.heap.size, 0, none⟩ 1 1 [.int .i64 z] rfl rfl (news1 w.drew _ _) (by simp [Value.oneCell']) (by unfold maxLen; omega) (by omega) (by simp; omega) ?_); intro v2 w5 hown2 hgrow2; obtain ⟨A5, c5, rfl, _⟩ := own_form hown2; obtain ⟨hc5, hr5, hf5, hp5⟩ := HGR.out w5 _ (grown_drew hgrow2) hown2; have HP5 := Lib.hid hp5; clear hown2 hgrow2 hp5))
    all_goals
      go_end0
      exact ⟨_, rfl, HP5.out⟩

end Go.Proofs.YtjhcjdkbichabaaDoor
