/- Rows of one's own, each with cells of one's own. -/
import Derived.Test.YtfjgfmeanehpmaaHh
namespace Go.Proofs.Ytfjgfmeanehpmaa
open Go.RowKit

/-- A row as it lies in memory: where its cells are, how many, the room, whether it goes on. -/
structure Raw where
  A : Option Addr
  n : Nat
  c : Nat
  k : Bool
def encW (r : Raw) : List Value := [.slice r.A r.n r.c, .bool r.k]
theorem encW_len (r : Raw) : (encW r).length = 2 := rfl
theorem encW_one (r : Raw) : ∀ u ∈ encW r, u.oneCell' = true := fun u h => by
  simp only [encW, List.mem_cons, List.not_mem_nil, or_false] at h
  rcases h with rfl | rfl <;> rfl
theorem infoRow : (Try.prog.info? 31).map (fun i => (i.zero, i.size, i.bytes)) = some (some (.agg #[.slice none 0 0, .bool false]), 2, 32) := by kernel_rfl
theorem ne_rc : 31 ≠ 54 := by decide
/-- A row's cells are there, in a block of their own. -/
def IC (B : Nat) (w : World) (r : Raw) (x : Rw) : Prop :=
  r.n = x.c.length ∧ r.n ≤ r.c ∧ r.k = x.k ∧ (x.c = [] ∨ ∃ g, r.A = some ⟨g, 0, none⟩ ∧ B ≤ g ∧ MC w g x.c)
theorem IC.past {B : Nat} {w w' : World} {r : Raw} {x : Rw} (h : IC B w r x) (hb : Below w.heap.size w w') : IC B w' r x := by
  obtain ⟨h1, h2, h3, h4⟩ := h
  exact ⟨h1, h2, h3, h4.imp id fun ⟨g, e, hg, hm⟩ => ⟨g, e, hg, hm.past hb⟩⟩
theorem MC.same {w w' : World} {g : Nat} {l : List CC} (h : MC w g l) (e : w'.heap[g]? = w.heap[g]?) : MC w' g l := by
  obtain ⟨cur, hc⟩ := h.row
  have ec : ∀ k, w'.cell? ⟨g, k, none⟩ = w.cell? ⟨g, k, none⟩ := fun k => by simp [World.cell?, e]
  refine ⟨⟨cur, e.trans hc⟩, fun k hk => ?_⟩
  have h8 := h.at' k hk
  unfold C8 at h8 ⊢
  rw [ec, ec, ec, ec, ec, ec, ec, ec]
  exact h8
theorem own_ty {w : World} {B : Nat} {e : TypeId} {z : Nat} {v : Value} {n : Nat} {xs : List Value} (h : w.ownsRow B e z v n xs) {g : Nat} (hg : v.ownBlock = some g) : ∃ cur, w.heap[g]? = some (.cells cur e (0, 0)) := by
  rcases h.2 with ⟨rfl, _⟩ | ⟨g', cap, cur, rfl, _, hh, _⟩
  · simp [Value.ownBlock] at hg
  · simp [Value.ownBlock] at hg
    subst hg
    exact ⟨cur, hh⟩
theorem MC.grown {w w5 : World} {B g : Nat} {l : List CC} {z : Nat} {v : Value} {n : Nat} {xs : List Value} {T : TypeId} (h : MC w g l) (ho : w.ownsRow B T z v n xs) (hT : T ≠ 54) (hg : w.grownBy w5 v.ownBlock) : MC w5 g l :=
  h.same (hg.block g h.lt (fun e => by
    obtain ⟨c1, h1⟩ := own_ty ho e.symm
    obtain ⟨c2, h2⟩ := h.row
    rw [h1] at h2
    injection h2 with h2
    injection h2 with _ h3 _
    exact hT h3))
theorem IC.grown {w w5 : World} {B B' : Nat} {r : Raw} {x : Rw} {z : Nat} {v : Value} {n : Nat} {xs : List Value} {T : TypeId} (h : IC B w r x) (ho : w.ownsRow B' T z v n xs) (hT : T ≠ 54) (hg : w.grownBy w5 v.ownBlock) : IC B w5 r x := by
  obtain ⟨h1, h2, h3, h4⟩ := h
  exact ⟨h1, h2, h3, h4.imp id fun ⟨g, e, hb, hm⟩ => ⟨g, e, hb, hm.grown ho hT hg⟩⟩
/-- Rows of one's own. -/
def ORW (B : Nat) (w : World) (v : Value) (L : List Rw) : Prop :=
  ∃ raw : List Raw, raw.length = L.length ∧ w.ownsRow B 31 2 v L.length (rowsV encW raw) ∧ ∀ (i : Nat) (r : Raw) (x : Rw), raw[i]? = some r → L[i]? = some x → IC B w r x
theorem ORW.past {B : Nat} {w w' : World} {v : Value} {L : List Rw} (h : ORW B w v L) (hb : Below w.heap.size w w') : ORW B w' v L := by
  obtain ⟨raw, h1, h2, h3⟩ := h
  exact ⟨raw, h1, own_pastK h2 hb, fun i r x hr hx => (h3 i r x hr hx).past hb⟩
theorem ORW.nil (B : Nat) (w : World) : ORW B w (.slice none 0 0) [] := ⟨[], rfl, World.ownsRow_nil _ _ _ _, fun i r x hr => by simp at hr⟩
theorem ORW.form {B : Nat} {w : World} {v : Value} {L : List Rw} (h : ORW B w v L) : ∃ A c, v = .slice A L.length c ∧ L.length ≤ c := by
  obtain ⟨raw, h1, h2, h3⟩ := h
  exact own_formK h2
/-- Rows of one's own read as rows. -/
theorem ORW.read {B n c : Nat} {w : World} {A : Option Addr} {L : List Rw} (h : ORW B w (.slice A n c) L) : n = L.length ∧ RR w A L := by
  obtain ⟨raw, h1, h2, h3⟩ := h
  obtain ⟨A', c', e, _⟩ := own_formK h2
  injection e with e1 e2 e3
  subst e1; subst e2; subst e3
  refine ⟨rfl, fun hne => ?_⟩
  have hrk := RK.of_own encW_len h2 h1.symm
  obtain ⟨b, off, e, hl, hc⟩ := hrk (fun e => by rw [e] at h1; exact hne (List.eq_nil_of_length_eq_zero h1.symm))
  refine ⟨b, off, e, hl, fun i hi => ?_⟩
  have hi' : i < raw.length := by rw [h1]; exact hi
  have hx : L[i]? = some (Ar L i) := by unfold Ar; rw [List.getElem?_eq_getElem hi]; rfl
  have hr := List.getElem?_eq_getElem hi'
  obtain ⟨g1, g2, g3, g4⟩ := h3 i _ _ hr hx
  generalize raw[i] = r at *
  refine ⟨r.A, r.c, ?_, ?_, ?_, by omega⟩
  · rw [← g1]; exact hc i r hr 0 _ rfl
  · rw [← g3]; exact hc i r hr 1 _ rfl
  · intro hne
    rcases g4 with g4 | ⟨g, e, _, hm⟩
    · exact absurd g4 hne
    · exact ⟨g, 0, e, hm.lt, fun k hk => by rw [Nat.zero_add]; exact hm.at' k hk⟩
/-- One row more. -/
theorem ORW.snoc {B : Nat} {w w5 : World} {v v5 : Value} {L : List Rw} {raw : List Raw} (h1 : raw.length = L.length) (h2 : w.ownsRow B 31 2 v L.length (rowsV encW raw)) (h3 : ∀ (i : Nat) (r : Raw) (x : Rw), raw[i]? = some r → L[i]? = some x → IC B w r x)
    (hg : w.grownBy w5 v.ownBlock) {r : Raw} {x : Rw} (hr : IC B w r x) (h5 : w5.ownsRow B 31 2 v5 (L.length + 1) (rowsV encW raw ++ encW r)) : ORW B w5 v5 (L ++ [x]) := by
  refine ⟨raw ++ [r], by simp [h1], by rw [rowsV_app, List.length_append]; simpa [rowsV] using h5, fun i r' x' hr' hx' => ?_⟩
  by_cases hi : i < L.length
  · rw [List.getElem?_append_left (by omega)] at hr'
    rw [List.getElem?_append_left hi] at hx'
    exact (h3 i r' x' hr' hx').grown h2 ne_rc hg
  · have hlt := (List.getElem?_eq_some_iff.1 hx').1
    obtain rfl : i = L.length := by simp at hlt; omega
    rw [List.getElem?_concat_length] at hx'
    rw [← h1, List.getElem?_concat_length] at hr'
    cases hx'; cases hr'
    exact hr.grown h2 ne_rc hg
theorem newsW (W : World) (r : Raw) (t : TypeId) : ∀ (j : Nat) (u : Value), (encW r)[j]? = some u → (W.alloc (.cells #[.slice r.A r.n r.c, .bool r.k] t)).cell? ((⟨W.heap.size, 0, none⟩ : Addr).add j) = some u := fun j u hj => by
  have hadd : ((⟨W.heap.size, 0, none⟩ : Addr).add j) = ⟨W.heap.size, j, none⟩ := by
    unfold Addr.add
    by_cases h1 : j = 0 <;> simp [h1]
  rw [hadd, cell_of_row _ _ j _ _ _ (heap_alloc_new W _), ← hj]
  simp [encW]
/-- The first row. -/
theorem ORW.first {B : Nat} (w : World) (hB : B ≤ w.heap.size) {r : Raw} {x : Rw} (hr : IC B w r x) : ORW B (w.alloc (.cells #[.slice r.A r.n r.c, .bool r.k] 31)) (.slice (some ⟨w.heap.size, 0, none⟩) 1 1) [x] := by
  refine ⟨[r], rfl, ?_, fun i r' x' hr' hx' => ?_⟩
  · exact World.ownsRow_lit (e := 31) (size := 2) w #[.slice r.A r.n r.c, .bool r.k] 1 hB (by unfold maxLen; omega) rfl
  · have hlt := (List.getElem?_eq_some_iff.1 hx').1
    obtain rfl : i = 0 := by simpa using hlt
    cases hx'; cases hr'
    exact hr.past (belA (Below.refl _ _) _)
end Go.Proofs.Ytfjgfmeanehpmaa
