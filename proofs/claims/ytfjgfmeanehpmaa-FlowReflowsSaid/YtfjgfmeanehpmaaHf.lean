/- The builtin copy into a row of cells of one's own; the walk of flow.cut. -/
import Derived.Test.YtfjgfmeanehpmaaHe
import Derived.Test.YtfjgfmeanehpmaaGl
import Derived.Laws.IdiomCopy
import Derived.Deep.MidRow
namespace Go.Proofs.Ytfjgfmeanehpmaa
open Go.RowKit

theorem sizeCellF : (Try.prog.info? 54).map (·.size) = some 8 := by kernel_rfl
theorem run_copy_8F {P : Program} (w : World) (dT sT ty elem : TypeId) (b o dLen dCap : Nat) (a : Addr) (sLen sCap k : Nat) (cs : List Value)
    (hu : P.underlying dT = some (.slice elem)) (hs : (P.info? elem).map (·.size) = some 8) (hk : k = Nat.min sLen dLen) (hn : cs.length = k * 8)
    (hsrc : ∀ j v, cs[j]? = some v → w.cell? (a.add j) = some v) (hc : ∀ j, j < cs.length → (w.cell? ⟨b, o + j, none⟩).isSome = true) (hf : ∀ j, j < cs.length → w.frozen? ⟨b, o + j, none⟩ = false) (h1 : ∀ v ∈ cs, v.oneCell' = true) :
    (Builtin.copy_ #[dT, sT] ty #[.slice (some ⟨b, o, none⟩) dLen dCap, .slice (some a) sLen sCap]).run P w = .ok (goInt k) (w.setCells b o cs) := by
  have hl := run_loadCells_list (P := P) w a cs hsrc
  have hst := run_storeCells_cells (P := P) b o cs 0 w (by simpa using hc) (by simpa using hf) h1
  rw [hn] at hl
  cases hq : P.info? elem with
  | none => simp [hq] at hs
  | some i =>
    have hi : i.size = 8 := by simpa [hq] using hs
    simp [Builtin.copy_, run_underlying hu, Builtin.lenOf, Builtin.firstCells, sizeOf, typeInfo, hq, hi, ← hk, hl, hst]
theorem run_copy_nilF {P : Program} (w : World) (dT sT ty elem : TypeId) (a : Addr) (dLen dCap sCap : Nat) (hu : P.underlying dT = some (.slice elem)) (hs : (P.info? elem).map (·.size) = some 8) :
    (Builtin.copy_ #[dT, sT] ty #[.slice (some a) dLen dCap, .slice none 0 sCap]).run P w = .ok (goInt (0 : Nat)) w := by
  cases hq : P.info? elem with
  | none => simp [hq] at hs
  | some i =>
    have h0 : Nat.min 0 dLen = 0 := Nat.min_eq_left (Nat.zero_le _)
    simp [Builtin.copy_, run_underlying hu, Builtin.lenOf, Builtin.firstCells, sizeOf, typeInfo, hq, storeCells, h0]
theorem KG.setCellsF {g : Nat} {w w1 : World} (h : KG g w w1) : ∀ (vs : List Value) (o : Nat), KG g w (w1.setCells g o vs) := fun vs => by
  induction vs generalizing w1 with
  | nil => exact fun o => h
  | cons v r ih => exact fun o => ih (h.set o v) (o + 1)
theorem row_setCellsF {g : Nat} (vs : List Value) : ∀ (o : Nat) (w : World) (cur : Array Value), w.heap[g]? = some (.cells cur 54 (0, 0)) → ∃ cur', (w.setCells g o vs).heap[g]? = some (.cells cur' 54 (0, 0)) := by
  induction vs with
  | nil => exact fun o w cur h => ⟨cur, h⟩
  | cons v r ih => exact fun o w cur h => ih (o + 1) (w.setCell ⟨g, o, none⟩ v) _ (heap_setCell_same w g o cur _ v h)
theorem MC.thereF {w : World} {g : Nat} {M : List CC} (h : MC w g M) (k : Nat) (h1 : k ≤ M.length) : w.there g 0 (k * 8) := fun j hj => by
  refine ⟨?_, h.free _⟩
  have hs : ((encC (Ac M (j / 8)))[j % 8]?).isSome := by simp [encC]; omega
  obtain ⟨u, hu⟩ := Option.isSome_iff_exists.1 hs
  have := (h.at' (j / 8) (by omega)).enc (j % 8) u hu
  rw [show j / 8 * 8 + j % 8 = j by omega] at this
  rw [Nat.zero_add, this]
  rfl
/-- Cells are laid over the beginning of a row. -/
theorem MC.put {w : World} {g : Nat} {M : List CC} (h : MC w g M) (xs : List CC) (h1 : xs.length ≤ M.length) : MC (w.setCells g 0 (cellsC xs)) g (xs ++ M.drop xs.length) := by
  have hcl : (cellsC xs).length = xs.length * 8 := cellsC_len xs
  have hth := h.thereF xs.length h1
  rw [← hcl] at hth
  obtain ⟨cur, hc⟩ := h.row
  refine ⟨row_setCellsF _ _ _ cur hc, fun i hi => C8.of fun r u hu => ?_⟩
  have hi : i < M.length := by simp at hi; omega
  have hr : r < 8 := by have := (List.getElem?_eq_some_iff.1 hu).1; simpa [encC] using this
  by_cases hlo : i < xs.length
  · have e : Ac (xs ++ M.drop xs.length) i = Ac xs i := by unfold Ac; rw [List.getElem?_append_left hlo]
    rw [e] at hu
    have := World.rangeAt_setCells_same w g 0 (cellsC xs) hth (i * 8 + r) u (by
      rw [cellsC_at xs i r hlo hr]
      exact hu)
    rwa [Nat.zero_add] at this
  · have e : Ac (xs ++ M.drop xs.length) i = Ac M i := by
      unfold Ac
      rw [List.getElem?_append_right (by omega), List.getElem?_drop, show xs.length + (i - xs.length) = i by omega]
    rw [e] at hu
    have hra : w.rangeAt g (i * 8) (encC (Ac M i)) := fun j u hj => (h.at' i hi).enc j u hj
    exact World.rangeAt_setCells_apart hra g 0 _ (.inr (.inr (by rw [hcl]; omega))) r u hu
/-- The builtin copy of cells that lie elsewhere. -/
theorem wpList_copy_rc {w : World} {ops : Array Oper} {rest : List Oper} {o : Oper} {a : Act} {Q : Exit → Act → World → Prop} (hgd : o.guard = none) (d s : Operand)
    (ho : o.op = .call { callee := .builtin .copy, args := #[d, s], argTypes := #[29, 29] })
    (g : Nat) (M : List CC) (hm : MC w g M) (A : Option Addr) (f : List CC) (hf : RC w w.heap.size A f) (dLen dCap sLen sCap k : Nat) (hd : a.eval d = .slice (some ⟨g, 0, none⟩) dLen dCap) (hs : a.eval s = .slice A sLen sCap)
    (hdl : dLen = M.length) (hsl : sLen = f.length) (hk : k = Nat.min sLen dLen)
    (h : ∀ w', MC w' g (f.take k ++ M.drop k) → KG g w w' → wpList Try.prog ops Q rest (a.put o.dst (goInt k)) w') : wpList Try.prog ops Q (o :: rest) a w := by
  subst hdl; subst hsl
  have hkf : k ≤ f.length := by rw [hk]; exact Nat.min_le_left _ _
  have hkm : k ≤ M.length := by rw [hk]; exact Nat.min_le_right _ _
  refine wpList_plain hgd fun K hK => ?_
  rcases f with _ | ⟨x, f⟩
  · have hk0 : k = 0 := by simpa using hkf
    subst hk0
    have hh := h w (by simpa using hm) (KG.refl g w)
    cases A with
    | none =>
      have hrun := run_copy_nilF (P := Try.prog) w 29 29 o.type 54 ⟨g, 0, none⟩ M.length dCap sCap Try.underlying29 sizeCellF
      unfold Oper.wp
      simp [execOp, ho, resolve, invoke, builtin, hd, hs, hrun, Result.andThen]
      exact hK _ _ hh
    | some ad =>
      have hrun := run_copy_8F (P := Try.prog) w 29 29 o.type 54 g 0 M.length dCap ad 0 sCap 0 [] Try.underlying29 sizeCellF (by simp) rfl
        (fun j v hj => by cases hj) (fun j hj => by cases hj) (fun j hj => by cases hj) (fun v hv => by cases hv)
      unfold Oper.wp
      simp [execOp, ho, resolve, invoke, builtin, hd, hs, hrun, Result.andThen]
      exact hK _ _ hh
  · obtain ⟨b, off, rfl, hlt, hc⟩ := hf (by simp)
    generalize hF : x :: f = F at *
    have hlen : (F.take k).length = k := by rw [List.length_take]; omega
    have hcl : (cellsC (F.take k)).length = k * 8 := by rw [cellsC_len, hlen]
    have hth := hm.thereF k hkm
    rw [← hcl] at hth
    have hrun := run_copy_8F (P := Try.prog) w 29 29 o.type 54 g 0 M.length dCap ⟨b, off, none⟩ F.length sCap k (cellsC (F.take k)) Try.underlying29 sizeCellF hk hcl
      (RC.news fun i hi => by
        have hi : i < k := by omega
        have e : Ac (F.take k) i = Ac F i := by unfold Ac; rw [List.getElem?_take, if_pos hi]
        rw [e]
        exact hc i (by omega)) (fun j hj => (hth j hj).1) (fun j hj => (hth j hj).2) (cellsC_one _)
    have hput := hm.put (F.take k) (by rw [hlen]; exact hkm)
    rw [hlen] at hput
    unfold Oper.wp
    simp [execOp, ho, resolve, invoke, builtin, hd, hs, hrun, Result.andThen]
    exact hK _ _ (h _ hput ((KG.refl g w).setCellsF _ _))

/-- A row with what fits of a flow. -/
def rowF (m : Nat) (f : List CC) : List CC := f.take (Nat.min f.length m) ++ (List.replicate m CC.zero).drop (Nat.min f.length m)
theorem rowF_len (m : Nat) (f : List CC) : (rowF m f).length = m := by
  have h1 : Nat.min f.length m ≤ f.length := Nat.min_le_left _ _
  have h2 : Nat.min f.length m ≤ m := Nat.min_le_right _ _
  unfold rowF
  generalize Nat.min f.length m = k at *
  simp
  omega
theorem rowF_low (m : Nat) (f : List CC) (i : Nat) (h : i < f.length) (h2 : i < m) : Ac (rowF m f) i = Ac f i := by
  have h3 : i < Nat.min f.length m := by show i < min _ _; omega
  unfold rowF Ac
  rw [List.getElem?_append_left (by simp; omega), List.getElem?_take, if_pos h3]
theorem rowF_high (m : Nat) (f : List CC) (i : Nat) (h : f.length ≤ i) (h2 : i < m) : Ac (rowF m f) i = CC.zero := by
  have e : Nat.min f.length m = f.length := by show min _ _ = _; omega
  unfold rowF Ac
  rw [e, List.take_length, List.getElem?_append_right h, List.getElem?_drop, List.getElem?_replicate, if_pos (by omega)]
  rfl
theorem cut_left (m : Nat) (f : List CC) (h2 : 2 ≤ m) (h : m ≤ f.length ∧ (Ac f (m - 1)).h = 1) : cutR1 m f = (rowF m f).set (m - 1) padF ∧ cutR2 m f = f.drop (m - 1) ∧ (Ac (rowF m f) (m - 1)).h = 1 := by
  have e : Nat.min f.length m = m := by show min _ _ = _; omega
  refine ⟨?_, ?_, by rw [rowF_low m f (m - 1) (by omega) (by omega)]; exact h.2⟩
  · unfold cutR1 rowF
    rw [if_pos h, e, List.drop_of_length_le (by simp), List.append_nil]
    apply List.ext_getElem?
    intro i
    rw [List.getElem?_set]
    by_cases hi : m - 1 = i
    · subst hi
      rw [if_pos rfl, if_pos (by simp; omega), List.getElem?_append_right (by simp; omega)]
      have : m - 1 - (f.take (m - 1)).length = 0 := by simp; omega
      rw [this]
      rfl
    · rw [if_neg hi]
      by_cases hl : i < m - 1
      · rw [List.getElem?_append_left (by simp; omega), List.getElem?_take, List.getElem?_take, if_pos hl, if_pos (by omega)]
      · rw [List.getElem?_eq_none (by simp; omega), List.getElem?_eq_none (by simp; omega)]
  · unfold cutR2
    rw [if_pos h]
theorem cut_plain (m : Nat) (f : List CC) (h2 : 2 ≤ m) (h : ¬ (m ≤ f.length ∧ (Ac f (m - 1)).h = 1)) : cutR1 m f = rowF m f ∧ cutR2 m f = f.drop (Nat.min f.length m) ∧ (Ac (rowF m f) (m - 1)).h ≠ 1 := by
  refine ⟨?_, ?_, fun hh => ?_⟩
  · unfold cutR1 rowF
    rw [if_neg h]
    rcases Nat.lt_or_ge f.length m with h1 | h1
    · have e : Nat.min f.length m = f.length := by show min _ _ = _; omega
      rw [e, List.take_of_length_le (by omega : f.length ≤ m), List.take_length, List.drop_replicate]
    · have e : Nat.min f.length m = m := by show min _ _ = _; omega
      rw [e, List.drop_replicate, Nat.sub_self, show m - f.length = 0 by omega]
  · unfold cutR2
    rw [if_neg h]
    rcases Nat.lt_or_ge f.length m with h1 | h1
    · have e : Nat.min f.length m = f.length := by show min _ _ = _; omega
      rw [e, List.drop_of_length_le (by omega : f.length ≤ m), List.drop_length]
    · have e : Nat.min f.length m = m := by show min _ _ = _; omega
      rw [e]
  · rcases Nat.lt_or_ge (m - 1) f.length with h1 | h1
    · rw [rowF_low m f (m - 1) h1 (by omega)] at hh
      exact h ⟨by omega, hh⟩
    · rw [rowF_high m f (m - 1) h1 (by omega)] at hh
      cases hh
theorem RC.drop {w : World} {b off : Nat} {l : List CC} (h : RC w w.heap.size (some ⟨b, off, none⟩) l) (k : Nat) : RC w w.heap.size (some ⟨b, off + k * 8, none⟩) (l.drop k) := fun hne => by
  have hk : k < l.length := by
    rcases Nat.lt_or_ge k l.length with h1 | h1
    · exact h1
    · exact absurd (List.drop_eq_nil_of_le h1) hne
  obtain ⟨b', off', e, hl, hc⟩ := h (fun e => by rw [e] at hk; simp at hk)
  injection e with e
  injection e with e1 e2 _
  subst e1; subst e2
  refine ⟨b, _, rfl, hl, fun i hi => ?_⟩
  have e : Ac (l.drop k) i = Ac l (k + i) := by unfold Ac; rw [List.getElem?_drop]
  rw [e, show off + k * 8 + i * 8 = off + (k + i) * 8 by omega]
  exact hc (k + i) (by simp at hi; omega)
end Go.Proofs.Ytfjgfmeanehpmaa
