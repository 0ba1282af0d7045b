/- A queue of needles in memory: which comes first, swapped. -/
import Derived.Test.YtjifekdjkjnefaaH3
import Derived.Test.YtjifekdjkjnefaaH4
namespace Go.Proofs.Ytjifekdjkjnefaa
open Go.RowKit

/-- A needle, and the value of its places' slice. -/
abbrev Ent := Nd × Value
def enA (E : List Ent) (k : Nat) : Ent := E[k]?.getD ((0, []), .nilIface)
def ndE (E : List Ent) : List Nd := E.map fun e => e.1
theorem ndE_len (E : List Ent) : (ndE E).length = E.length := by simp [ndE]
theorem ndE_at (E : List Ent) (k : Nat) (h : k < E.length) : ndAt (ndE E) k = (enA E k).1 := by
  unfold ndAt ndE enA
  rw [List.getElem?_map, List.getElem?_eq_getElem h]
  rfl
def eV (E : List Ent) : List Value := E.flatMap fun e => [.int .i64 (e.1.1 : Nat), e.2]
theorem eV_len : ∀ E : List Ent, (eV E).length = E.length * 2
  | [] => rfl
  | e :: t => by
    have := eV_len t
    show (eV t).length + 1 + 1 = _
    rw [this, List.length_cons]
    omega
theorem eV_at : ∀ (E : List Ent) (k : Nat), k < E.length → (eV E)[k * 2]? = some (.int .i64 ((enA E k).1.1 : Nat)) ∧ (eV E)[k * 2 + 1]? = some (enA E k).2
  | [], k, h => by simp at h
  | e :: t, 0, _ => ⟨rfl, rfl⟩
  | e :: t, k + 1, h => by
    have := eV_at t k (by simpa using h)
    rw [show (k + 1) * 2 = k * 2 + 1 + 1 by omega]
    exact this
/-- Cells that hold the needles. -/
def CE (cur : Array Value) (E : List Ent) : Prop := E.length * 2 ≤ cur.size ∧ ∀ k, k < E.length → cur[k * 2]? = some (.int .i64 ((enA E k).1.1 : Nat)) ∧ cur[k * 2 + 1]? = some (enA E k).2
theorem CE.take {cur : Array Value} {E : List Ent} (h : CE cur E) : cur.toList.take (E.length * 2) = eV E := by
  apply List.ext_getElem?
  intro m
  rw [List.getElem?_take]
  by_cases hm : m < E.length * 2
  · rw [if_pos hm]
    rcases (show m = (m / 2) * 2 ∨ m = (m / 2) * 2 + 1 by omega) with e | e
    · rw [e, (eV_at E (m / 2) (by omega)).1, ← (h.2 (m / 2) (by omega)).1, Array.getElem?_toList]
    · rw [e, (eV_at E (m / 2) (by omega)).2, ← (h.2 (m / 2) (by omega)).2, Array.getElem?_toList]
  · rw [if_neg hm, List.getElem?_eq_none (by rw [eV_len]; omega)]
theorem CE.of {cur : Array Value} {E : List Ent} (hs : E.length * 2 ≤ cur.size) (h : cur.toList.take (E.length * 2) = eV E) : CE cur E := by
  refine ⟨hs, fun k hk => ?_⟩
  have h1 := eV_at E k hk
  rw [← h, List.getElem?_take, if_pos (by omega), List.getElem?_take, if_pos (by omega), Array.getElem?_toList, Array.getElem?_toList] at h1
  exact h1
/-- A needle's places lie in memory. -/
def PR (W : World) (e : Ent) : Prop := ∃ g off c cur, e.2 = .slice (some ⟨g, off, none⟩) e.1.2.length c ∧ e.1.2.length ≤ c ∧ W.heap[g]? = some (.cells cur 3 (0, 0)) ∧ (∀ k, k < e.1.2.length → cur[off + k]? = some (.int .i64 (e.1.2[k]?.getD 0 : Nat))) ∧ e.1.2 ≠ [] ∧ e.1.1 < 1000
/-- Rows of other types are as they were. -/
structure HF (W W' : World) : Prop where
  size : W.heap.size ≤ W'.heap.size
  keep : ∀ (k : Nat) (cur : Array Value) (t : TypeId) (fz : Nat × Nat), W.heap[k]? = some (Obj.cells cur t fz) → t ≠ 51 → t ≠ 49 → W'.heap[k]? = some (Obj.cells cur t fz)
theorem HF.refl (W : World) : HF W W := ⟨Nat.le_refl _, fun _ _ _ _ h _ _ => h⟩
theorem HF.trans {a b c : World} (h : HF a b) (h2 : HF b c) : HF a c := ⟨Nat.le_trans h.size h2.size, fun k cur t fz hk h1 h3 => h2.keep k cur t fz (h.keep k cur t fz hk h1 h3) h1 h3⟩
theorem HF.below {W W' : World} (h : Below W.heap.size W W') : HF W W' := ⟨h.size, fun k _ _ _ hk _ _ => (h.block k (Array.getElem?_eq_some_iff.1 hk).1).trans hk⟩
theorem PR.hf {W W' : World} {e : Ent} (h : PR W e) (hf : HF W W') : PR W' e := by
  obtain ⟨g, off, c, cur, h1, h2, h3, h4, h5, h6⟩ := h
  exact ⟨g, off, c, cur, h1, h2, hf.keep g cur _ _ h3 (by decide) (by decide), h4, h5, h6⟩
/-- A queue's own blocks. -/
def QO (b : Nat) (W : World) (k : Nat) : Prop := k = b ∨ ∃ v, W.heap[b]? = some (.cells #[v] 49 (0, 0)) ∧ v.ownBlock = some k
theorem FrO.trans' {Ow : World → Nat → Prop} {a b c : World} (h : FrO Ow a b) (h' : FrO Ow b c) : FrO Ow a c :=
  ⟨Nat.le_trans h.size h'.size, fun k hk hn => (h'.keep k (Nat.lt_of_lt_of_le hk h.size) (fun ho => (h.own k ho).elim hn (by omega))).trans (h.keep k hk hn), fun k hk => (h'.own k hk).elim (h.own k) (fun h2 => .inr (Nat.le_trans h.size h2))⟩
theorem fro_below {b : Nat} {W W' : World} (hb : b < W.heap.size) (h : Below W.heap.size W W') : FrO (QO b) W W' :=
  ⟨h.size, fun k hk _ => h.block k hk, fun _ ho => .inl (ho.imp id fun ⟨v, hv, hk⟩ => ⟨v, (h.block b hb).symm.trans hv, hk⟩)⟩
/-- A hunt's queue at b. -/
structure QM (w0 : World) (b : Nat) (E : List Ent) (W : World) : Prop where
  below : Below w0.heap.size w0 W
  le : w0.heap.size ≤ b
  box : ∃ A c, W.heap[b]? = some (.cells #[.slice A E.length c] 49 (0, 0)) ∧ W.ownsRow (b + 1) 51 2 (.slice A E.length c) E.length (eV E)
  pr : ∀ e ∈ E, PR W e
theorem QM.past {w0 W W' : World} {b : Nat} {E : List Ent} (h : QM w0 b E W) (hb : Below W.heap.size W W') : QM w0 b E W' := by
  obtain ⟨A, c, h1, h2⟩ := h.box
  exact ⟨bel0 h.below hb, h.le, ⟨A, c, (hb.block b (Array.getElem?_eq_some_iff.1 h1).1).trans h1, own_past h2 hb⟩, fun e he => (h.pr e he).hf (HF.below hb)⟩
/-- What lies there, if it isn't empty. -/
theorem QM.row {w0 W : World} {b : Nat} {E : List Ent} (h : QM w0 b E W) (hne : 0 < E.length) : ∃ g c cur, W.heap[b]? = some (.cells #[.slice (some ⟨g, 0, none⟩) E.length c] 49 (0, 0)) ∧ b + 1 ≤ g ∧ W.heap[g]? = some (.cells cur 51 (0, 0)) ∧ E.length ≤ c ∧ c ≤ maxLen ∧ cur.size = c * 2 ∧ CE cur E := by
  obtain ⟨A, c, h1, h2⟩ := h.box
  rcases h2.2 with ⟨_, h0⟩ | ⟨g, cap, cur, e, h3, h4, h5, h6, h7, h8⟩
  · omega
  · injection e with e1 _ e3
    subst e1; subst e3
    exact ⟨g, c, cur, h1, h3, h4, h5, h6, h7, CE.of (by rw [h7]; omega) h8⟩
theorem QM.mk' {w0 W : World} {b g c : Nat} {E : List Ent} {cur : Array Value} (hb : Below w0.heap.size w0 W) (hle : w0.heap.size ≤ b) (h1 : W.heap[b]? = some (.cells #[.slice (some ⟨g, 0, none⟩) E.length c] 49 (0, 0))) (h3 : b + 1 ≤ g) (h4 : W.heap[g]? = some (.cells cur 51 (0, 0))) (h5 : E.length ≤ c) (h6 : c ≤ maxLen) (h7 : cur.size = c * 2) (h8 : CE cur E) (hp : ∀ e ∈ E, PR W e) : QM w0 b E W :=
  ⟨hb, hle, ⟨_, c, h1, eV_len E, .inr ⟨g, c, cur, rfl, h3, h4, h5, h6, h7, h8.take⟩⟩, hp⟩
theorem enA_mem {E : List Ent} {k : Nat} (h : k < E.length) : enA E k ∈ E := by
  unfold enA
  rw [List.getElem?_eq_getElem h]
  exact List.getElem_mem h
def swE (E : List Ent) (i j : Nat) : List Ent := (E.set i (enA E j)).set j (enA E i)
theorem swE_len (E : List Ent) (i j : Nat) : (swE E i j).length = E.length := by simp [swE]
theorem swE_at (E : List Ent) (i j k : Nat) (hi : i < E.length) (hj : j < E.length) : enA (swE E i j) k = if k = j then enA E i else if k = i then enA E j else enA E k := by
  by_cases hkj : k = j
  · subst hkj
    rw [if_pos rfl]
    show (((E.set i (enA E k)).set k (enA E i))[k]?).getD _ = _
    rw [List.getElem?_set, if_pos rfl, if_pos (by simpa using hj)]
    rfl
  · rw [if_neg hkj]
    show (((E.set i (enA E j)).set j (enA E i))[k]?).getD _ = _
    rw [List.getElem?_set, if_neg (fun e => hkj e.symm), List.getElem?_set]
    by_cases hki : k = i
    · subst hki
      rw [if_pos rfl, if_pos rfl, if_pos hi]
      rfl
    · rw [if_neg hki, if_neg (fun e => hki e.symm)]
      rfl
theorem ndE_swE (E : List Ent) (i j : Nat) (hi : i < E.length) (hj : j < E.length) : ndE (swE E i j) = swp (ndE E) i j := by
  unfold swE swp ndE
  rw [List.map_set, List.map_set]
  congr 1
  · congr 1
    exact (ndE_at E j hj).symm
  · exact (ndE_at E i hi).symm
theorem swE_mem {E : List Ent} {i j : Nat} (hi : i < E.length) (hj : j < E.length) {e : Ent} (h : e ∈ swE E i j) : e ∈ E := by
  obtain ⟨k, hk, rfl⟩ := List.getElem_of_mem h
  rw [swE_len] at hk
  have h1 : (swE E i j)[k] = enA (swE E i j) k := by
    unfold enA
    rw [List.getElem?_eq_getElem (by rw [swE_len]; exact hk)]
    rfl
  rw [h1, swE_at E i j k hi hj]
  split
  · exact enA_mem hi
  · split
    · exact enA_mem hj
    · exact enA_mem hk
theorem four_set (cur : Array Value) (i j k : Nat) (a1 a2 b1 b2 : Value) (hi : i * 2 + 1 < cur.size) (hj : j * 2 + 1 < cur.size) :
    ((((cur.setIfInBounds (i * 2) b1).setIfInBounds (i * 2 + 1) b2).setIfInBounds (j * 2) a1).setIfInBounds (j * 2 + 1) a2)[k * 2]? = (if k = j then some a1 else if k = i then some b1 else cur[k * 2]?) ∧
    ((((cur.setIfInBounds (i * 2) b1).setIfInBounds (i * 2 + 1) b2).setIfInBounds (j * 2) a1).setIfInBounds (j * 2 + 1) a2)[k * 2 + 1]? = (if k = j then some a2 else if k = i then some b2 else cur[k * 2 + 1]?) := by
  simp only [Array.getElem?_setIfInBounds, Array.size_setIfInBounds]
  by_cases hkj : k = j
  · subst hkj
    refine ⟨?_, ?_⟩
    · rw [if_neg (by omega), if_pos rfl, if_pos (by omega), if_pos rfl]
    · rw [if_pos rfl, if_pos (by omega), if_pos rfl]
  · by_cases hki : k = i
    · subst hki
      refine ⟨?_, ?_⟩
      · rw [if_neg (by omega), if_neg (by omega), if_neg (by omega), if_pos rfl, if_pos (by omega), if_neg hkj, if_pos rfl]
      · rw [if_neg (by omega), if_neg (by omega), if_pos rfl, if_pos (by omega), if_neg hkj, if_pos rfl]
    · refine ⟨?_, ?_⟩
      · rw [if_neg (by omega), if_neg (by omega), if_neg (by omega), if_neg (by omega), if_neg hkj, if_neg hki]
      · rw [if_neg (by omega), if_neg (by omega), if_neg (by omega), if_neg (by omega), if_neg hkj, if_neg hki]
/-- What a walk knows of an entry. -/
theorem QM.ent {w0 W : World} {b : Nat} {E : List Ent} (h : QM w0 b E W) {k : Nat} (hk : k < E.length) : ∃ g off c cur, (enA E k).2 = .slice (some ⟨g, off, none⟩) (enA E k).1.2.length c ∧ (enA E k).1.2.length ≤ c ∧ W.heap[g]? = some (.cells cur 3 (0, 0)) ∧ (∀ m, m < (enA E k).1.2.length → cur[off + m]? = some (.int .i64 ((enA E k).1.2[m]?.getD 0 : Nat))) ∧ (enA E k).1.2 ≠ [] ∧ (enA E k).1.1 < 1000 := h.pr _ (enA_mem hk)
theorem head_at {l : List Nat} (h : l ≠ []) : l[0]?.getD 0 = l.head?.getD 0 := by
  cases l with
  | nil => exact absurd rfl h
  | cons a t => rfl
theorem QM.less {w0 W : World} {b : Nat} {E : List Ent} (h : QM w0 b E W) (v : Value) (hv : W.cell? ⟨b, 0, none⟩ = some v) (i j : Nat) (hi : i < E.length) (hj : j < E.length) :
    Calls Try.prog 62 #[v, .int .i64 i, .int .i64 j] W fun e w' => e = .returned (.bool (decide (ky (ndE E) i < ky (ndE E) j))) ∧ Below W.heap.size W w' := by
  obtain ⟨G, c, cur, h1, h2, h3, h4, h5, h6, h7⟩ := h.row (by omega)
  obtain ⟨gi, oi, ci, ui, i1, i2, i3, i4, i5, i6⟩ := h.ent hi
  obtain ⟨gj, oj, cj, uj, j1, j2, j3, j4, j5, j6⟩ := h.ent hj
  have e := row_cell h1 0 _ rfl
  rw [hv] at e
  injection e with e
  subst e
  have k1 := h7.2 i hi
  have k2 := h7.2 j hj
  rw [i1] at k1
  rw [j1] at k2
  have hni := List.length_pos_iff.2 i5
  have hnj := List.length_pos_iff.2 j5
  have e1 := i4 0 hni
  have e2 := j4 0 hnj
  rw [Nat.add_zero, head_at i5] at e1
  rw [Nat.add_zero, head_at j5] at e2
  have hres : ky (ndE E) i = (enA E i).1.2.head?.getD 0 * 1000 + (enA E i).1.1 := by
    unfold ky kq
    rw [ndE_at E i hi]
  have hres2 : ky (ndE E) j = (enA E j).1.2.head?.getD 0 * 1000 + (enA E j).1.1 := by
    unfold ky kq
    rw [ndE_at E j hj]
  rw [hres, hres2]
  exact less_at G E.length c i j _ _ _ _ gi oi _ ci gj oj _ cj hi hj hni hnj i6 j6 W ⟨⟨row_cell h3 _ _ k1.1, row_cell h3 _ _ k1.2, row_cell h3 _ _ k2.1, row_cell h3 _ _ k2.2, row_cell i3 _ _ e1, row_cell j3 _ _ e2⟩, (Array.getElem?_eq_some_iff.1 h3).1, (Array.getElem?_eq_some_iff.1 i3).1, (Array.getElem?_eq_some_iff.1 j3).1⟩
theorem QM.swap {w0 W : World} {b : Nat} {E : List Ent} (h : QM w0 b E W) (v : Value) (hv : W.cell? ⟨b, 0, none⟩ = some v) (i j : Nat) (hi : i < E.length) (hj : j < E.length) :
    Calls Try.prog 63 #[v, .int .i64 i, .int .i64 j] W fun e w' => e = .returned (.tuple #[]) ∧ QM w0 b (swE E i j) w' ∧ HF W w' ∧ w'.cell? ⟨b, 0, none⟩ = some v ∧ FrO (QO b) W w' := by
  obtain ⟨G, c, cur, h1, h2, h3, h4, h5, h6, h7⟩ := h.row (by omega)
  obtain ⟨gi, oi, ci, ui, i1, i2, i3, i4, i5, i6⟩ := h.ent hi
  obtain ⟨gj, oj, cj, uj, j1, j2, j3, j4, j5, j6⟩ := h.ent hj
  have e := row_cell h1 0 _ rfl
  rw [hv] at e
  injection e with e
  subst e
  have k1 := h7.2 i hi
  have k2 := h7.2 j hj
  rw [i1] at k1
  rw [j1] at k2
  refine (swap_at G E.length c i j _ _ _ _ _ ci _ cj hi hj cur _ h7.1 W h3 (row_cell h3 _ _ k1.1) (row_cell h3 _ _ k1.2) (row_cell h3 _ _ k2.1) (row_cell h3 _ _ k2.2)).mono fun e w' hp => ⟨hp.1, ?_⟩
  have hw := hp.2
  have hh : ∀ k, k ≠ G → w'.heap[k]? = W.heap[k]? := fun k hk => by
    rw [← hw]
    exact (Below.heap_setCell _ _ _ k hk).trans ((Below.heap_setCell _ _ _ k hk).trans ((Below.heap_setCell _ _ _ k hk).trans (Below.heap_setCell _ _ _ k hk)))
  have hGG := row_set (row_set (row_set (row_set h3 (i * 2) (.int .i64 ((enA E j).1.1 : Nat))) (i * 2 + 1) (.slice (some ⟨gj, oj, none⟩) (enA E j).1.2.length cj)) (j * 2) (.int .i64 ((enA E i).1.1 : Nat))) (j * 2 + 1) (.slice (some ⟨gi, oi, none⟩) (enA E i).1.2.length ci)
  have hG' : w'.heap[G]? = _ := (congrArg (fun z : World => z.heap[G]?) hw).symm.trans hGG
  have hsz : w'.heap.size = W.heap.size := by
    rw [← hw]
    show (World.setCell _ _ _).heap.size = _
    rw [World.size_setCell, World.size_setCell, World.size_setCell, World.size_setCell]
  have hbel : Below w0.heap.size w0 w' := ⟨by rw [← hw]; exact h.below.os, by rw [← hw]; exact h.below.tape, by rw [← hw]; exact h.below.output, by rw [hsz]; exact h.below.size, fun k hk => (hh k (by have := h.le; omega)).trans (h.below.block k hk)⟩
  have hHF : HF W w' := ⟨by rw [hsz]; exact Nat.le_refl _, fun k u t fz hk n1 n2 => by
    by_cases e : k = G
    · subst e
      rw [h3] at hk
      simp only [Option.some.injEq, Obj.cells.injEq] at hk
      exact absurd hk.2.1.symm n1
    · exact (hh k e).trans hk⟩
  have hbox := (hh b (by omega)).trans h1
  refine ⟨?_, hHF, row_cell hbox 0 _ rfl, ⟨by rw [hsz]; exact Nat.le_refl _, fun k _ hno => hh k (fun e => hno (.inr ⟨_, h1, by rw [e]; rfl⟩)), fun _ ho => .inl (ho.imp id fun ⟨v, hv, hk⟩ => ⟨v, (hh b (by omega)).symm.trans hv, hk⟩)⟩⟩
  refine QM.mk' hbel h.le (by rw [swE_len]; exact hbox) h2 hG' (by rw [swE_len]; exact h4) h5 (by simpa using h6) ?_ (fun e he => (h.pr e (swE_mem hi hj he)).hf hHF)
  have hs1 := h7.1
  refine ⟨by rw [swE_len]; simpa using hs1, fun k hk => ?_⟩
  rw [swE_len] at hk
  have h9 := four_set cur i j k (.int .i64 ((enA E i).1.1 : Nat)) (.slice (some ⟨gi, oi, none⟩) (enA E i).1.2.length ci) (.int .i64 ((enA E j).1.1 : Nat)) (.slice (some ⟨gj, oj, none⟩) (enA E j).1.2.length cj) (by omega) (by omega)
  rw [h9.1, h9.2, swE_at E i j k hi hj]
  by_cases hkj : k = j
  · subst hkj
    rw [if_pos rfl, if_pos rfl, if_pos rfl, i1]
    exact ⟨rfl, rfl⟩
  · rw [if_neg hkj, if_neg hkj, if_neg hkj]
    by_cases hki : k = i
    · subst hki
      rw [if_pos rfl, if_pos rfl, if_pos rfl, j1]
      exact ⟨rfl, rfl⟩
    · rw [if_neg hki, if_neg hki, if_neg hki]
      exact h7.2 k hk

end Go.Proofs.Ytjifekdjkjnefaa
