/- The builtin copy inside a row of cells; Close. -/
import Derived.Test.YtoiekhjmfoodiaaDoorYb
import Derived.Laws.IdiomCopy
import Derived.Deep.MidRow
namespace Go.Proofs.YtoiekhjmfoodiaaDoor
open Go.RowKit

theorem run_copy_8 {P : Program} (w : World) (dT sT ty elem : TypeId) (b o dLen dCap : Nat) (a : Addr) (sLen sCap k : Nat) (cs : List Value)
    (hu : P.underlying dT = some (.slice elem)) (hs : (P.info? elem).map (·.size) = some 8) (hk : k = Nat.min sLen dLen) (hn : cs.length = k * 8)
    (hsrc : ∀ j v, cs[j]? = some v → w.cell? (a.add j) = some v) (hc : ∀ j, j < cs.length → (w.cell? ⟨b, o + j, none⟩).isSome = true) (hf : ∀ j, j < cs.length → w.frozen? ⟨b, o + j, none⟩ = false) (h1 : ∀ v ∈ cs, v.oneCell' = true) :
    (Builtin.copy_ #[dT, sT] ty #[.slice (some ⟨b, o, none⟩) dLen dCap, .slice (some a) sLen sCap]).run P w = .ok (goInt k) (w.setCells b o cs) := by
  have hl := run_loadCells_list (P := P) w a cs hsrc
  have hst := run_storeCells_cells (P := P) b o cs 0 w (by simpa using hc) (by simpa using hf) h1
  rw [hn] at hl
  cases hq : P.info? elem with
  | none => simp [hq] at hs
  | some i =>
    have hi : i.size = 8 := by simpa [hq] using hs
    simp [Builtin.copy_, run_underlying hu, Builtin.lenOf, Builtin.firstCells, sizeOf, typeInfo, hq, hi, ← hk, hl, hst]
/-- A row in which k cells from the place s on lie at the place d too. -/
def movL (M : List CC) (d s k : Nat) : List CC := M.take d ++ ((M.drop s).take k ++ M.drop (d + k))
theorem movL_len (M : List CC) (d s k : Nat) (h1 : d + k ≤ M.length) (h2 : s + k ≤ M.length) : (movL M d s k).length = M.length := by
  unfold movL
  simp only [List.length_append, List.length_take, List.length_drop]
  omega
theorem movL_in (M : List CC) (d s k j : Nat) (h1 : d + k ≤ M.length) (h2 : s + k ≤ M.length) (hj : j < k) : Ac (movL M d s k) (d + j) = Ac M (s + j) := by
  unfold Ac movL
  rw [List.getElem?_append_right (by simp; omega), List.getElem?_append_left (by simp; omega)]
  simp only [List.length_take]
  rw [show d + j - min d M.length = j by omega, List.getElem?_take, if_pos hj, List.getElem?_drop]
theorem movL_low (M : List CC) (d s k j : Nat) (h1 : d + k ≤ M.length) (hj : j < d) : Ac (movL M d s k) j = Ac M j := by
  unfold Ac movL
  rw [List.getElem?_append_left (by simp; omega), List.getElem?_take, if_pos hj]
theorem movL_high (M : List CC) (d s k j : Nat) (h1 : d + k ≤ M.length) (h2 : s + k ≤ M.length) (hj : d + k ≤ j) : Ac (movL M d s k) j = Ac M j := by
  unfold Ac movL
  rw [List.getElem?_append_right (by simp; omega), List.getElem?_append_right (by simp; omega), List.getElem?_drop]
  simp only [List.length_take, List.length_drop]
  rw [show d + k + (j - min d M.length - min k (M.length - s)) = j by omega]
theorem one_cells : ∀ (l : List CC), ∀ v ∈ cellsC l, v.oneCell' = true
  | [], v, h => by cases h
  | x :: l, v, h => by
    have h : v ∈ encC x ++ cellsC l := h
    rcases List.mem_append.1 h with h | h
    · simp only [encC, List.mem_cons, List.not_mem_nil, or_false] at h
      rcases h with rfl | rfl | rfl | rfl | rfl | rfl | rfl | rfl <;> rfl
    · exact one_cells l v h
theorem cellsC_split (l : List CC) (j : Nat) (u : Value) (h : (cellsC l)[j]? = some u) : ∃ i r, j = i * 8 + r ∧ r < 8 ∧ i < l.length ∧ (encC (Ac l i))[r]? = some u := by
  have hj : j < (cellsC l).length := (List.getElem?_eq_some_iff.1 h).1
  rw [cellsC_len] at hj
  refine ⟨j / 8, j % 8, by omega, by omega, by omega, ?_⟩
  rw [← cellsC_at l (j / 8) (j % 8) (by omega) (by omega), show j / 8 * 8 + j % 8 = j by omega]
  exact h
theorem Ac_cut (M : List CC) (s k i : Nat) (hi : i < k) : Ac ((M.drop s).take k) i = Ac M (s + i) := by
  unfold Ac
  rw [List.getElem?_take, if_pos hi, List.getElem?_drop]
theorem KG.setCells {g : Nat} {w w1 : World} (h : KG g w w1) : ∀ (vs : List Value) (o : Nat), KG g w (w1.setCells g o vs) := fun vs => by
  induction vs generalizing w1 with
  | nil => exact fun o => h
  | cons v r ih => exact fun o => ih (h.set o v) (o + 1)
theorem row_setCells {g : Nat} (vs : List Value) : ∀ (o : Nat) (w : World) (cur : Array Value), w.heap[g]? = some (.cells cur 44 (0, 0)) → ∃ cur', (w.setCells g o vs).heap[g]? = some (.cells cur' 44 (0, 0)) := by
  induction vs with
  | nil => exact fun o w cur h => ⟨cur, h⟩
  | cons v r ih => exact fun o w cur h => ih (o + 1) (w.setCell ⟨g, o, none⟩ v) _ (heap_setCell_same w g o cur _ v h)
theorem MC.there {w : World} {g : Nat} {M : List CC} (h : MC w g M) (d k : Nat) (h1 : d + k ≤ M.length) : w.there g (d * 8) (k * 8) := fun j hj => by
  refine ⟨?_, h.free _⟩
  have hs : ((encC (Ac M (d + j / 8)))[j % 8]?).isSome := by simp [encC]; omega
  obtain ⟨u, hu⟩ := Option.isSome_iff_exists.1 hs
  have := (h.at' (d + j / 8) (by omega)).enc (j % 8) u hu
  rw [show (d + j / 8) * 8 + j % 8 = d * 8 + j by omega] at this
  rw [this]
  rfl
theorem MC.moved {w : World} {g : Nat} {M : List CC} (h : MC w g M) (d s k : Nat) (h1 : d + k ≤ M.length) (h2 : s + k ≤ M.length) : MC (w.setCells g (d * 8) (cellsC ((M.drop s).take k))) g (movL M d s k) := by
  have hcl : (cellsC ((M.drop s).take k)).length = k * 8 := by rw [cellsC_len, List.length_take, List.length_drop]; omega
  have hth := h.there d k h1
  rw [← hcl] at hth
  obtain ⟨cur, hc⟩ := h.row
  refine ⟨row_setCells _ _ _ cur hc, fun i hi => C8.of fun r u hu => ?_⟩
  rw [movL_len M d s k h1 h2] at hi
  have hr : r < 8 := by have := (List.getElem?_eq_some_iff.1 hu).1; simpa [encC] using this
  by_cases hlo : i < d
  · rw [movL_low M d s k i h1 hlo] at hu
    have hra : w.rangeAt g (i * 8) (encC (Ac M i)) := fun j u hj => (h.at' i hi).enc j u hj
    exact World.rangeAt_setCells_apart hra g (d * 8) _ (.inr (.inl (by show i * 8 + 8 ≤ d * 8; omega))) r u hu
  · by_cases hhi : d + k ≤ i
    · rw [movL_high M d s k i h1 h2 hhi] at hu
      have hra : w.rangeAt g (i * 8) (encC (Ac M i)) := fun j u hj => (h.at' i hi).enc j u hj
      exact World.rangeAt_setCells_apart hra g (d * 8) _ (.inr (.inr (by rw [hcl]; omega))) r u hu
    · obtain ⟨j, rfl⟩ : ∃ j, i = d + j := ⟨i - d, by omega⟩
      rw [movL_in M d s k j h1 h2 (by omega)] at hu
      have := World.rangeAt_setCells_same w g (d * 8) _ hth (j * 8 + r) u (by
        rw [cellsC_at _ j r (by rw [List.length_take, List.length_drop]; omega) hr, Ac_cut M s k j (by omega)]
        exact hu)
      rwa [show d * 8 + (j * 8 + r) = (d + j) * 8 + r by omega] at this
theorem sizeCell : (Tryd.prog.info? 44).map (·.size) = some 8 := by kernel_rfl
/-- The builtin copy inside a row of cells. -/
theorem wpList_copy_mc {w : World} {ops : Array Oper} {rest : List Oper} {o : Oper} {a : Act} {Q : Exit → Act → World → Prop} (hgd : o.guard = none) (d s : Operand)
    (ho : o.op = .call { callee := .builtin .copy, args := #[d, s], argTypes := #[22, 22] })
    (g : Nat) (M : List CC) (hm : MC w g M) (od os dLen dCap sLen sCap k : Nat) (hd : a.eval d = .slice (some ⟨g, od * 8, none⟩) dLen dCap) (hs : a.eval s = .slice (some ⟨g, os * 8, none⟩) sLen sCap)
    (hk : k = Nat.min sLen dLen) (h1 : od + k ≤ M.length) (h2 : os + k ≤ M.length)
    (h : ∀ w', MC w' g (movL M od os k) → KG g w w' → wpList Tryd.prog ops Q rest (a.put o.dst (goInt k)) w') : wpList Tryd.prog ops Q (o :: rest) a w := by
  refine wpList_plain hgd fun K hK => ?_
  have hcl : (cellsC ((M.drop os).take k)).length = k * 8 := by rw [cellsC_len, List.length_take, List.length_drop]; omega
  have hth := hm.there od k h1
  rw [← hcl] at hth
  have hrun := run_copy_8 (P := Tryd.prog) w 22 22 o.type 44 g (od * 8) dLen dCap ⟨g, os * 8, none⟩ sLen sCap k (cellsC ((M.drop os).take k)) Tryd.underlying22 sizeCell hk hcl
    (fun j v hj => by
      obtain ⟨i, r, rfl, hr, hi, hu⟩ := cellsC_split _ j v hj
      rw [List.length_take, List.length_drop] at hi
      rw [Ac_cut M os k i (by omega)] at hu
      have := (hm.at' (os + i) (by omega)).enc r v hu
      rw [Addr.add_mid, show os * 8 + (i * 8 + r) = (os + i) * 8 + r by omega]
      exact this) (fun j hj => (hth j hj).1) (fun j hj => (hth j hj).2) (one_cells _)
  unfold Oper.wp
  simp [execOp, ho, resolve, invoke, builtin, hd, hs, hrun, Result.andThen]
  exact hK _ _ (h _ (hm.moved od os k h1 h2) ((KG.refl g w).setCells _ _))
end Go.Proofs.YtoiekhjmfoodiaaDoor
