/- Rows of one's own, the last of which still grows. -/
import Derived.Test.YtfjgfmeanehpmaaHj
import Derived.Laws.OwnMore
namespace Go.Proofs.Ytfjgfmeanehpmaa
open Go.RowKit

/-- Rows, the last of which still grows: its cells lie in a block of their own, no older than C. -/
structure PS (w : World) (B C : Nat) (v : Value) (D : List Rw) (raw : List Raw) (cur : List CC) (k : Bool) (vc : Value) : Prop where
  outer : w.ownsRow B 31 2 v (D.length + 1) (rowsV encW raw ++ [vc, .bool k])
  len : raw.length = D.length
  ic : ∀ (i : Nat) (r : Raw) (x : Rw), raw[i]? = some r → D[i]? = some x → IC B w r x ∧ ∀ g, r.A = some ⟨g, 0, none⟩ → x.c ≠ [] → g < C
  cur : w.ownsRow C 54 8 vc cur.length (cellsC cur)
  le : B ≤ C
  sz : C ≤ w.heap.size
theorem rowsV_encW_len (raw : List Raw) : (rowsV encW raw).length = raw.length * 2 := rowsV_len encW 2 encW_len raw
theorem PS.past {w w' : World} {B C : Nat} {v : Value} {D : List Rw} {raw : List Raw} {cur : List CC} {k : Bool} {vc : Value} (h : PS w B C v D raw cur k vc) (hb : Below w.heap.size w w') : PS w' B C v D raw cur k vc :=
  ⟨own_pastK h.outer hb, h.len, fun i r x hr hx => ⟨(h.ic i r x hr hx).1.past hb, (h.ic i r x hr hx).2⟩, own_pastK h.cur hb, h.le, Nat.le_trans h.sz hb.size⟩
theorem PS.slot {w : World} {B C : Nat} {v : Value} {D : List Rw} {raw : List Raw} {cur : List CC} {k : Bool} {vc : Value} (h : PS w B C v D raw cur k vc) :
    ∃ g c, v = .slice (some ⟨g, 0, none⟩) (D.length + 1) c ∧ B ≤ g ∧ g < w.heap.size ∧ D.length + 1 ≤ c ∧ w.cell? ⟨g, D.length * 2, none⟩ = some vc ∧ w.cell? ⟨g, D.length * 2 + 1, none⟩ = some (.bool k) ∧ w.frozen? ⟨g, D.length * 2, none⟩ = false := by
  have ho := h.outer
  rcases ho.2 with ⟨_, h0⟩ | ⟨g, cap, cur', rfl, hb, hh, hc, _⟩
  · omega
  · refine ⟨g, cap, rfl, hb, (Array.getElem?_eq_some_iff.1 hh).1, hc, ?_, ?_, ho.frozenAt _⟩
    · rw [ho.cellAt _ (by omega), List.getElem?_append_right (by rw [rowsV_encW_len, h.len]; exact Nat.le_refl _), rowsV_encW_len, h.len, Nat.sub_self]
      rfl
    · rw [ho.cellAt _ (by omega), List.getElem?_append_right (by rw [rowsV_encW_len, h.len]; omega), rowsV_encW_len, h.len, show D.length * 2 + 1 - D.length * 2 = 1 by omega]
      rfl
theorem PS.form {w : World} {B C : Nat} {v : Value} {D : List Rw} {raw : List Raw} {cur : List CC} {k : Bool} {vc : Value} (h : PS w B C v D raw cur k vc) : ∃ A c, vc = .slice A cur.length c ∧ cur.length ≤ c := own_formK h.cur
theorem own_neT {w : World} {B B' : Nat} {e e' : TypeId} {z z' : Nat} {v v' : Value} {n n' : Nat} {xs xs' : List Value} (h : w.ownsRow B e z v n xs) (h' : w.ownsRow B' e' z' v' n' xs') (hne : e ≠ e') : v.ownBlock = none ∨ v.ownBlock ≠ v'.ownBlock := by
  cases hv : v.ownBlock with
  | none => exact .inl rfl
  | some g =>
    refine .inr (fun e2 => ?_)
    obtain ⟨c1, h1⟩ := own_ty h hv
    obtain ⟨c2, h2⟩ := own_ty h' e2.symm
    rw [h1] at h2
    injection h2 with h2
    injection h2 with _ h3 _
    exact hne h3
/-- The last row has grown (w5), and is laid in its place. -/
theorem PS.grow {w w5 : World} {B C g c : Nat} {D : List Rw} {raw : List Raw} {cur cur2 : List CC} {k : Bool} {vc v2 : Value} (h : PS w B C (.slice (some ⟨g, 0, none⟩) (D.length + 1) c) D raw cur k vc) (hg : w.grownBy w5 vc.ownBlock) (h2 : w5.ownsRow C 54 8 v2 cur2.length (cellsC cur2)) :
    w5.cell? ⟨g, D.length * 2, none⟩ = some vc ∧ w5.frozen? ⟨g, D.length * 2, none⟩ = false ∧ PS (w5.setCell ⟨g, D.length * 2, none⟩ v2) B C (.slice (some ⟨g, 0, none⟩) (D.length + 1) c) D raw cur2 k v2 ∧ (∀ {W0 : World}, Below B W0 w → Below B W0 (w5.setCell ⟨g, D.length * 2, none⟩ v2)) := by
  have ho : w5.ownsRow B 31 2 (.slice (some ⟨g, 0, none⟩) (D.length + 1) c) (D.length + 1) (rowsV encW raw ++ [vc, .bool k]) := h.outer.kept hg (own_neT h.outer h.cur ne_rc)
  have hgB : B ≤ g := (h.outer.lt g rfl).1
  have hic : ∀ (i : Nat) (r : Raw) (x : Rw), raw[i]? = some r → D[i]? = some x → IC B w5 r x := fun i r x hr hx => by
    obtain ⟨⟨g1, g2, g3, g4⟩, g5⟩ := h.ic i r x hr hx
    refine ⟨g1, g2, g3, ?_⟩
    rcases g4 with g4 | ⟨gm, e, hb, hm⟩
    · exact .inl g4
    · by_cases hne : x.c = []
      · exact .inl hne
      · refine .inr ⟨gm, e, hb, hm.same (hg.block gm hm.lt (fun e2 => ?_))⟩
        have := g5 gm e hne
        have := (h.cur.lt gm e2.symm).1
        omega
  obtain ⟨oc, hoc⟩ := own_ty ho (g := g) rfl
  have hs := ho.stored (D.length * 2) v2
  have hset : (rowsV encW raw ++ [vc, .bool k]).set (D.length * 2) v2 = rowsV encW raw ++ [v2, .bool k] := by
    rw [List.set_append_right _ _ (by rw [rowsV_encW_len, h.len]; exact Nat.le_refl _), rowsV_encW_len, h.len, Nat.sub_self]
    rfl
  rw [hset] at hs
  have hMC : ∀ {gm : Nat} {l : List CC}, MC w5 gm l → MC (w5.setCell ⟨g, D.length * 2, none⟩ v2) gm l := fun {gm l} hm => hm.same (heap_setCell_other w5 ⟨g, D.length * 2, none⟩ gm v2 (fun e => by
    obtain ⟨c2, h2⟩ := hm.row
    have e : gm = g := e
    rw [e, hoc] at h2
    injection h2 with h2
    injection h2 with _ h3 _
    exact ne_rc h3))
  refine ⟨?_, ho.frozenAt _, ⟨hs.1, h.len, fun i r x hr hx => ?_, h2.kept hs.2 ?_, h.le, Nat.le_trans h.sz (by rw [World.size_setCell]; exact hg.size)⟩, fun hb => ?_⟩
  · rw [ho.cellAt _ (by omega), List.getElem?_append_right (by rw [rowsV_encW_len, h.len]; exact Nat.le_refl _), rowsV_encW_len, h.len, Nat.sub_self]
    rfl
  · obtain ⟨g1, g2, g3, g4⟩ := hic i r x hr hx
    exact ⟨⟨g1, g2, g3, g4.imp id fun ⟨gm, e, hb, hm⟩ => ⟨gm, e, hb, hMC hm⟩⟩, (h.ic i r x hr hx).2⟩
  · have e : (Value.slice (some (⟨g, 0, none⟩ : Addr)) (D.length + 1) c).ownBlock = some g := rfl
    rw [← e]
    exact own_neT h2 ho (fun e => ne_rc e.symm)
  · have hsz : B ≤ w.heap.size := Nat.le_of_lt (Nat.lt_of_le_of_lt hgB (h.outer.lt g rfl).2)
    exact (hb.grown hg hsz (fun k e => Nat.le_trans h.le (h.cur.lt k e).1)).setCell (p := ⟨g, D.length * 2, none⟩) hgB _
theorem own_IC {w : World} {B C n c : Nat} {A : Option Addr} {cur : List CC} {k : Bool} (h : w.ownsRow C 54 8 (.slice A n c) n (cellsC cur)) (hn : n = cur.length) (hB : B ≤ C) : IC B w ⟨A, n, c, k⟩ ⟨cur, k⟩ ∧ ∀ g, A = some ⟨g, 0, none⟩ → cur ≠ [] → g < w.heap.size := by
  obtain ⟨A', c', e, hc⟩ := own_formK h
  injection e with e1 _ e3
  subst e1; subst e3
  refine ⟨⟨hn, hc, rfl, ?_⟩, fun g e _ => (h.lt g (by rw [e]; rfl)).2⟩
  rcases h.2 with ⟨_, h0⟩ | ⟨g', cap, cur', e, hb, _⟩
  · exact .inl (List.eq_nil_of_length_eq_zero (by show cur.length = 0; omega))
  · injection e with e1 _ e3
    subst e1; subst e3
    rcases MC.of_own h hn with ⟨_, _, hm⟩ | h0
    · exact .inr ⟨g', rfl, Nat.le_trans hB hb, hm⟩
    · exact .inl h0
/-- The last row is done; another one begins, empty. -/
theorem PS.next {w w3 w5 : World} {B C n c : Nat} {v v2 : Value} {D : List Rw} {raw : List Raw} {cur : List CC} {k : Bool} {A : Option Addr} (hn : n = cur.length) (h : PS w B C v D raw cur k (.slice A n c)) (hb : Below w.heap.size w w3) (hg : w3.grownBy w5 v.ownBlock)
    (h2 : w5.ownsRow B 31 2 v2 (D.length + 1 + 1) (rowsV encW raw ++ [.slice A n c, .bool k] ++ [.slice none 0 0, .bool true])) : PS w5 B w.heap.size v2 (D ++ [⟨cur, k⟩]) (raw ++ [⟨A, n, c, k⟩]) [] true (.slice none 0 0) := by
  have h3 := h.past hb
  have hsz : B ≤ w.heap.size := by
    obtain ⟨g, c, _, h1, h2, _⟩ := h.slot
    omega
  have hcur : w3.ownsRow C 54 8 (.slice A n c) n (cellsC cur) := by have := h3.cur; rwa [← hn] at this
  have hcur0 : w.ownsRow C 54 8 (.slice A n c) n (cellsC cur) := by have := h.cur; rwa [← hn] at this
  have hIC := own_IC (B := B) (k := k) hcur hn h.le
  refine ⟨?_, by simp [h.len], fun i r x hr hx => ?_, World.ownsRow_nil _ _ _ _, hsz, Nat.le_trans hb.size hg.size⟩
  · rw [List.length_append, rowsV_app]
    exact h2
  · by_cases hi : i < D.length
    · rw [List.getElem?_append_left (by rw [h.len]; exact hi)] at hr
      rw [List.getElem?_append_left hi] at hx
      obtain ⟨a1, a2⟩ := h3.ic i r x hr hx
      refine ⟨a1.grown h3.outer ne_rc hg, fun g e hne => ?_⟩
      obtain ⟨_, _, _, b4⟩ := (h.ic i r x hr hx).1
      rcases b4 with b4 | ⟨gm, e2, _, hm⟩
      · exact absurd b4 hne
      · rw [e] at e2
        injection e2 with e2
        injection e2 with e2 _ _
        rw [e2]
        exact hm.lt
    · have hlt := (List.getElem?_eq_some_iff.1 hx).1
      obtain rfl : i = D.length := by simp at hlt; omega
      rw [List.getElem?_concat_length] at hx
      rw [← h.len, List.getElem?_concat_length] at hr
      cases hx; cases hr
      exact ⟨hIC.1.grown h3.outer ne_rc hg, fun g e hne => (hcur0.lt g (by have e : A = some ⟨g, 0, none⟩ := e; rw [e]; rfl)).2⟩
/-- All rows. -/
theorem PS.all {w : World} {B C : Nat} {v : Value} {D : List Rw} {raw : List Raw} {cur : List CC} {k : Bool} {vc : Value} (h : PS w B C v D raw cur k vc) : ORW B w v (D ++ [⟨cur, k⟩]) := by
  obtain ⟨A, c, rfl, _⟩ := h.form
  have hIC := own_IC (B := B) (k := k) h.cur rfl h.le
  refine ⟨raw ++ [⟨A, cur.length, c, k⟩], by simp [h.len], ?_, fun i r x hr hx => ?_⟩
  · rw [List.length_append, rowsV_app]
    exact h.outer
  · by_cases hi : i < D.length
    · rw [List.getElem?_append_left (by rw [h.len]; exact hi)] at hr
      rw [List.getElem?_append_left hi] at hx
      exact (h.ic i r x hr hx).1
    · have hlt := (List.getElem?_eq_some_iff.1 hx).1
      obtain rfl : i = D.length := by simp at hlt; omega
      rw [List.getElem?_concat_length] at hx
      rw [← h.len, List.getElem?_concat_length] at hr
      cases hx; cases hr
      exact hIC.1
/-- The first row, empty. -/
theorem ps_first (w : World) : PS (w.alloc (.cells #[.slice none 0 0, .bool false] 31)) w.heap.size w.heap.size (.slice (some ⟨w.heap.size, 0, none⟩) 1 1) [] [] [] false (.slice none 0 0) :=
  ⟨World.ownsRow_lit (e := 31) (size := 2) w #[.slice none 0 0, .bool false] 1 (Nat.le_refl _) (by unfold maxLen; omega) rfl, rfl, fun i r x hr => by simp at hr, World.ownsRow_nil _ _ _ _, Nat.le_refl _, by simp⟩
end Go.Proofs.Ytfjgfmeanehpmaa
