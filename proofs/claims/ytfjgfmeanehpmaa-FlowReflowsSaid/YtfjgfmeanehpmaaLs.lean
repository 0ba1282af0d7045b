/- The document's Reflow: the rows that are made, and two rows of numbers beside them. -/
import Derived.Test.YtfjgfmeanehpmaaLr
import Derived.Test.YtfjgfmeanehpmaaLf
import Derived.Test.YtfjgfmeanehpmaaLn
import Derived.Maps.AppendAt
namespace Go.Proofs.Ytfjgfmeanehpmaa
open Go.RowKit

theorem grp_len_le : ∀ (G : List (List Rw)), (∀ g ∈ G, g ≠ []) → G.length ≤ (joinL G).length
  | [], _ => Nat.le_refl _
  | g :: G, h => by
    have h1 := List.length_pos_iff.2 (h g (by simp))
    have h2 := grp_len_le G (fun x hx => h x (List.mem_cons_of_mem _ hx))
    show G.length + 1 ≤ (g ++ joinL G).length
    rw [List.length_append]; omega
theorem ne_ir : 3 ≠ 31 := by decide
theorem ne_ic : 3 ≠ 54 := by decide
theorem own_apart {w : World} {B B' : Nat} {e e' : TypeId} {z z' : Nat} {v v' : Value} {n n' : Nat} {xs xs' : List Value} (h : w.ownsRow B e z v n xs) (h' : w.ownsRow B' e' z' v' n' xs') (hne : e ≠ e') : v.ownBlock = none ∨ v.ownBlock ≠ v'.ownBlock := by
  cases hv : v.ownBlock with
  | none => exact .inl rfl
  | some g =>
    refine .inr fun e => ?_
    obtain ⟨c1, h1⟩ := own_ty h hv
    obtain ⟨c2, h2⟩ := own_ty h' e.symm
    rw [h1] at h2
    injection h2 with h2
    injection h2 with _ h3 _
    exact hne h3
/-- Rows of one's own stay while a row of another type grows. -/
theorem ORW.beside {B B' : Nat} {w w5 : World} {v vi : Value} {L : List Rw} {z n : Nat} {xs : List Value} {T : TypeId} (h : ORW B w v L) (ho : w.ownsRow B' T z vi n xs) (hR : T ≠ 31) (hC : T ≠ 54) (hg : w.grownBy w5 vi.ownBlock) : ORW B w5 v L := by
  obtain ⟨raw, h1, h2, h3⟩ := h
  exact ⟨raw, h1, h2.kept hg (own_apart h2 ho (Ne.symm hR)), fun i r x hr hx => (h3 i r x hr hx).grown ho hC hg⟩
/-- The rows made so far, and of each old row where its line begins and ends. -/
structure PH (B : Nat) (W : World) (vo vb ve : Value) (M : List Rw) (bs es : List Nat) : Prop where
  le : B ≤ W.heap.size
  out : ORW B W vo M
  b : W.ownsRow B 3 1 vb bs.length (intsV bs)
  e : W.ownsRow B 3 1 ve es.length (intsV es)
  ne : vb.ownBlock = none ∨ vb.ownBlock ≠ ve.ownBlock
theorem PH.past {B : Nat} {W W' : World} {vo vb ve : Value} {M : List Rw} {bs es : List Nat} (h : PH B W vo vb ve M bs es) (hb : Below W.heap.size W W') : PH B W' vo vb ve M bs es :=
  ⟨Nat.le_trans h.le hb.size, h.out.past hb, own_pastK h.b hb, own_pastK h.e hb, h.ne⟩
theorem PH.start (W : World) : PH W.heap.size W (.slice none 0 0) (.slice none 0 0) (.slice none 0 0) [] [] [] :=
  ⟨Nat.le_refl _, ORW.nil _ _, World.ownsRow_nil _ _ _ _, World.ownsRow_nil _ _ _ _, .inl rfl⟩
theorem intsV_snoc (bs : List Nat) (x : Nat) : intsV (bs ++ [x]) = intsV bs ++ [.int .i64 (x : Int)] := by simp [intsV]
theorem PH.pushB {B : Nat} {W w5 : World} {vo vb ve v5 : Value} {M : List Rw} {bs es : List Nat} {x : Nat} (h : PH B W vo vb ve M bs es) (h5 : w5.ownsRow B 3 1 v5 (bs.length + 1) (intsV bs ++ [.int .i64 (x : Int)])) (hg : W.grownBy w5 vb.ownBlock) (hat : v5.ownBlock = vb.ownBlock ∨ v5.ownBlock = some W.heap.size) : PH B w5 vo v5 ve M (bs ++ [x]) es ∧ W.grownBy w5 vb.ownBlock := by
  have hne : ve.ownBlock = none ∨ ve.ownBlock ≠ vb.ownBlock := by
    rcases h.ne with h1 | h1
    · rw [h1]; cases hv : ve.ownBlock <;> simp
    · exact .inr (Ne.symm h1)
  refine ⟨⟨Nat.le_trans h.le hg.size, h.out.beside h.b ne_ir ne_ic hg, by rw [intsV_snoc, List.length_append]; exact h5, h.e.kept hg hne, ?_⟩, hg⟩
  rcases hat with hat | hat
  · rw [hat]; exact h.ne
  · refine .inr fun e => ?_
    rw [hat] at e
    have := (h.e.lt _ e.symm).2
    omega
theorem PH.pushE {B : Nat} {W w5 : World} {vo vb ve v5 : Value} {M : List Rw} {bs es : List Nat} {x : Nat} (h : PH B W vo vb ve M bs es) (h5 : w5.ownsRow B 3 1 v5 (es.length + 1) (intsV es ++ [.int .i64 (x : Int)])) (hg : W.grownBy w5 ve.ownBlock) (hat : v5.ownBlock = ve.ownBlock ∨ v5.ownBlock = some W.heap.size) : PH B w5 vo vb v5 M bs (es ++ [x]) ∧ W.grownBy w5 ve.ownBlock := by
  refine ⟨⟨Nat.le_trans h.le hg.size, h.out.beside h.e ne_ir ne_ic hg, h.b.kept hg h.ne, by rw [intsV_snoc, List.length_append]; exact h5, ?_⟩, hg⟩
  rcases hat with hat | hat
  · rw [hat]; exact h.ne
  · refine .inr fun e => ?_
    rw [hat] at e
    have := (h.b.lt _ e).2
    omega
theorem PH.pushO {B : Nat} {W w5 : World} {vo vb ve v5 : Value} {M N : List Rw} {bs es : List Nat} {raw rawN : List Raw} (h : PH B W vo vb ve M bs es) (h1 : raw.length = M.length) (h2 : W.ownsRow B 31 2 vo M.length (rowsV encW raw)) (h3 : ∀ (i : Nat) (r : Raw) (x : Rw), raw[i]? = some r → M[i]? = some x → IC B W r x)
    (m3 : ∀ (i : Nat) (r : Raw) (x : Rw), rawN[i]? = some r → N[i]? = some x → IC B W r x) (m1 : rawN.length = N.length) (hg : W.grownBy w5 vo.ownBlock) (h5 : w5.ownsRow B 31 2 v5 (M.length + N.length) (rowsV encW raw ++ rowsV encW rawN)) : PH B w5 v5 vb ve (M ++ N) bs es :=
  ⟨Nat.le_trans h.le hg.size, ORW.join h1 h2 h3 m3 m1 hg h5, h.b.kept hg (own_apart h.b h2 ne_ir), h.e.kept hg (own_apart h.e h2 ne_ir), h.ne⟩
end Go.Proofs.Ytfjgfmeanehpmaa
