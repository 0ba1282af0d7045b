/- Add: a point comes, and the eldest goes if there are too many. -/
import Derived.Test.YtnkdbpbfapdfeaaDb
import Derived.Deep.RegionLaw
namespace Go.Proofs.Ytnkdbpbfapdfeaa
open Go.RowKit

def addL (most : Int) (L : List (Int × Int)) (p : Int × Int) : List (Int × Int) := if (L.length : Int) + 1 ≤ most then L ++ [p] else (L ++ [p]).tail
/-- What a call of a store's method may turn. -/
def PPost (w : World) (D : Nat) (v : Value) (most : Int) (L' : List (Int × Int)) (w' : World) : Prop :=
  ∃ v', PM w' D v' most L' ∧ KB (fun i => i = D ∨ some i = v.ownBlock) w w' ∧ (v'.ownBlock = v.ownBlock ∨ v'.ownBlock = none ∨ ∃ g, v'.ownBlock = some g ∧ w.heap.size ≤ g)
theorem PPost.same {w w' : World} {D : Nat} {v : Value} {most : Int} {L : List (Int × Int)} (h : PM w D v most L) (hb : Below w.heap.size w w') : PPost w D v most L w' :=
  ⟨v, h.past hb, KB.of_below hb, .inl rfl⟩
theorem news_p (W : World) (r c : Int) : ∀ (j : Nat) (u : Value), [Value.int .i64 r, .int .i64 c][j]? = some u → (W.alloc (.cells #[.int .i64 r, .int .i64 c] 30)).cell? ((⟨W.heap.size, 0, none⟩ : Addr).add j) = some u := fun j u hj => by
  rw [Addr.add_mid, Nat.zero_add]
  exact (cell_of_row _ _ _ _ _ _ (heap_alloc_new W _)).trans (by simpa using hj)
set_option maxRecDepth 100000 in
set_option maxHeartbeats 2000000 in
theorem add_wrong (w : World) (D : Nat) (r c : Int) (hp : okP r c = false) :
    Calls Try.prog 22 #[.pointer (some ⟨D, 0, none⟩), .agg #[.int .i64 r, .int .i64 c]] w fun e w' => e = .returned (.tuple #[]) ∧ Below w.heap.size w w' := by
  have HR := Lib.hid (fun W => (hp ▸ isRight_any r c W))
  clear hp
  go_enter Try.func22, Try.ntmps22
  go_wp2_with (go_at_call 31; (with_reducible refine (HR.out _).mono ?_); rintro e w1 ⟨rfl, hb⟩; have HB1 := Lib.hid (bel0 (belA (Below.refl w.heap.size w) _) hb); clear hb)
  (try simp only [Exit.inBlock, Exit.then])
  exact bodyPost_ret (results_none rfl _ _ _) rfl ⟨rfl, HB1.out⟩
set_option maxRecDepth 100000 in
set_option maxHeartbeats 4000000 in
theorem add_any {w : World} {D : Nat} {v : Value} {most : Int} {L : List (Int × Int)} (h : PM w D v most L) (r c : Int) (hp : okP r c = true) (h1 : 1 ≤ most) (hl : L.length ≤ 1000000) :
    Calls Try.prog 22 #[.pointer (some ⟨D, 0, none⟩), .agg #[.int .i64 r, .int .i64 c]] w fun e w' => e = .returned (.tuple #[]) ∧ PPost w D v most (addL most L (r, c)) w' := by
  have HR := Lib.hid (fun W => (hp ▸ isRight_any r c W))
  have hD := h.lt
  obtain ⟨A, cp, rfl⟩ := h.row.shape
  have HM := Lib.hid h
  clear hp h
  go_enter Try.func22, Try.ntmps22
  go_wp2_with (go_at_call 31; (with_reducible refine (HR.out _).mono ?_); rintro e w1 ⟨rfl, hb⟩; have y0 := keep hb (heap_alloc_new w _); have HB1 := Lib.hid (bel0 (belA (Below.refl w.heap.size w) _) hb); have hs1 := sz1 hb; clear hb)
  have hDs : D < w1.heap.size := by omega
  have HM1 := Lib.hid (HM.out.past HB1.out)
  obtain ⟨⟨d0, d1⟩, df⟩ := HM1.out.cells
  have c0 := cell_of_row _ _ 0 _ _ _ y0
  have c1 := cell_of_row _ _ 1 _ _ _ y0
  have HOWN : Hid (∀ o, OR (w1.drew.alloc o) (.slice A L.length cp) L.length (plC L)) := Lib.hid fun o => (HM1.out.past ((Below.refl _ _).drew.alloc (Nat.le_refl _) o)).row
  have HMID : Hid (∀ (o : Obj) (w6 : World) (v6 : Value), OR w6 v6 (L.length + 1) (plC L ++ [.int .i64 r, .int .i64 c]) → (w1.drew.alloc o).grownBy w6 (Value.slice A L.length cp).ownBlock → (v6.ownBlock = (Value.slice A L.length cp).ownBlock ∨ v6.ownBlock = some (w1.drew.alloc o).heap.size) → (w6.cell? ⟨D, 0, none⟩ = some (.slice A L.length cp) ∧ w6.frozen? ⟨D, 0, none⟩ = false) ∧ PM (w6.setCell ⟨D, 0, none⟩ v6) D v6 most (L ++ [(r, c)]) ∧ KB (fun i => i = D ∨ some i = (Value.slice A L.length cp).ownBlock) w (w6.setCell ⟨D, 0, none⟩ v6) ∧ (v6.ownBlock = (Value.slice A L.length cp).ownBlock ∨ v6.ownBlock = none ∨ ∃ g, v6.ownBlock = some g ∧ w.heap.size ≤ g)) := Lib.hid fun o w6 v6 ho hg hor => by
    have hk : KB (fun i => i = D ∨ some i = (Value.slice A L.length cp).ownBlock) (w1.drew.alloc o) w6 := KB.of_grown hg fun i e => .inr e
    have hP := HM1.out.past ((Below.refl _ _).drew.alloc (Nat.le_refl _) o)
    have hd6 : w6.heap[D]? = _ := (hg.block D hP.lt (fun e => HM1.out.ne D e.symm rfl)).trans hP.d
    have hP6 : PM w6 D (.slice A L.length cp) most L ∨ True := .inr trivial
    refine ⟨⟨cell_of_row _ _ 0 _ _ _ hd6, by simp [World.frozen?, hd6]⟩, ⟨heap_setCell_same w6 D 0 _ _ v6 hd6, ?_⟩, ?_, ?_⟩
    · rw [plC_app, List.length_append]
      refine ho.kept (KB.set (S := fun i => i = D) 0 v6 rfl) fun g hg6 e => ?_
      obtain ⟨cur, hc⟩ := (ho.lt g hg6).2
      rw [e, hd6] at hc
      injection hc with hc
      injection hc with _ h1 _
      exact absurd h1 (by decide)
    · have hb : KB (fun i => i = D ∨ some i = (Value.slice A L.length cp).ownBlock) w (w1.drew.alloc o) := KB.of_below (bel0 HB1.out ((Below.refl _ _).drew.alloc (Nat.le_refl _) o))
      exact (hb.trans hk fun _ _ e => e).trans (KB.set 0 v6 (.inl rfl)) fun _ _ e => e
    · rcases hor with e | e
      · exact .inl e
      · exact .inr (.inr ⟨_, e, by have := HB1.out.size; simp; omega⟩)
  clear y0 HR
  go_region_law ((refine step_append_places rfl _ _ rfl (.slice A L.length cp) L.length (plC L) rfl (HOWN.out _) ⟨w1.heap.size, 0, none⟩ 1 (.int .i64 r) (.int .i64 c) rfl (news_p w1.drew r c) (by simp [Value.oneCell']) hl ?_); intro v6 w6 ho6 hg6 hor6; obtain ⟨g6, off6, c6, rfl, hc6⟩ := ho6.form; obtain ⟨⟨e0, ef⟩, hm7, hk7, hor7⟩ := HMID.out _ _ _ ho6 hg6 hor6; have HM7 := Lib.hid hm7; have HK7 := Lib.hid hk7; have HOR := Lib.hid hor7; clear ho6 hg6 hor6 hm7 hk7 hor7)
  all_goals
    clear d0 d1 df HMID HOWN c0 c1 e0 ef HM1 HB1
    generalize w6.setCell ⟨D, 0, none⟩ (.slice (some ⟨g6, off6, none⟩) (L.length + 1) c6) = w7 at *
    obtain ⟨⟨d0, d1⟩, df⟩ := HM7.out.cells
    have hlt7 : D < w7.heap.size := HM7.out.lt
    by_cases hfit : (L.length : Int) + 1 ≤ most
    · have hd : ¬ most < (L.length : Int) + 1 := by omega
      have HFIN : Hid (PPost w D (.slice A L.length cp) most (addL most L (r, c)) w7.drew) := Lib.hid (by
        rw [addL, if_pos hfit]
        exact ⟨_, HM7.out.past (Below.refl _ _).drew, HK7.out.trans (KB.of_below (S := fun _ => False) (Below.refl _ _).drew) fun _ _ e => e.elim, HOR.out⟩)
      clear HM HM7 HK7 HOR hfit
      go_wp2_with fail
      go_region
      go_wp2
      go_end0
      exact ⟨rfl, HFIN.out⟩
    · have hd : most < (L.length : Int) + 1 := by omega
      have hL : L ≠ [] := fun e => by subst e; simp at hfit; omega
      have hc1 : 1 < c6 := by
        have : L.length ≠ 0 := fun e => hL (List.eq_nil_of_length_eq_zero e)
        omega
      have HFIN : Hid (PPost w D (.slice A L.length cp) most (addL most L (r, c)) (w7.drew.setCell ⟨D, 0, none⟩ (.slice (some ⟨g6, off6 + 2, none⟩) L.length (c6 - 1)))) := Lib.hid (by
        rw [addL, if_neg hfit]
        have h8 := HM7.out.past (Below.refl _ _).drew
        obtain ⟨x, L0, rfl⟩ : ∃ x L0, L = x :: L0 := by cases L with | nil => exact absurd rfl hL | cons x L0 => exact ⟨x, L0, rfl⟩
        have hr := h8.row
        rw [show (x :: L0) ++ [(r, c)] = x :: (L0 ++ [(r, c)]) from rfl] at hr ⊢
        have hlen : (L0 ++ [(r, c)]).length = (x :: L0).length := by simp
        have hr2 := OR.tail (n := (x :: L0).length) (by rw [← hlen]; rw [← hlen] at hr; exact hr)
        refine ⟨_, h8.set (L' := L0 ++ [(r, c)]) (by rw [hlen]; exact hr2), (HK7.out.trans (KB.of_below (S := fun _ => False) (Below.refl _ _).drew) fun _ _ e => e.elim).trans (KB.set (S := fun i => i = D) 0 _ rfl) fun _ _ e => .inl e, HOR.out⟩)
      have hi1 : (1 : Int) ≤ (L.length : Int) + 1 := by omega
      have hi2 : 1 ≤ L.length + 1 := by omega
      have hi3 : ¬ c6 = 1 := by omega
      clear HM HM7 HK7 HOR hfit hL
      go_wp2_with fail
      go_region
      go_wp2
      go_end0
      exact ⟨rfl, HFIN.out⟩
end Go.Proofs.Ytnkdbpbfapdfeaa
