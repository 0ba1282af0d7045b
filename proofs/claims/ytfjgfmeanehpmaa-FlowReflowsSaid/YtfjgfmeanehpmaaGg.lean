/- The walk of mend, in place. -/
import Derived.Test.YtfjgfmeanehpmaaGf
namespace Go.Proofs.Ytfjgfmeanehpmaa
open Go.RowKit

theorem isPair_all (b o n c : Nat) (x y : CC) (w : World) (hlt : b < w.heap.size) (h : C8 w b o x) (h' : 1 < n → C8 w b (o + 8) y) (hn : 1 ≤ n) (p : Bool) (hp : (decide (1 < n) && pairB x y) = p) :
    Calls Try.prog 55 #[.slice (some ⟨b, o, none⟩) n c] w fun e w' => e = .returned (.bool p) ∧ Below w.heap.size w w' := by
  subst hp
  by_cases hx : x.h = 1
  · by_cases h1 : 1 < n
    · rw [decide_eq_true h1, Bool.true_and]
      exact isPair_two b o n c x y w hlt h (h' h1) (by omega) hx
    · rw [decide_eq_false h1, Bool.false_and]
      exact isPair_no b o n c x w h hn (.inr (by omega))
  · have e : pairB x y = false := by unfold pairB; rw [show (x.h == 1) = false by simpa using hx]; rfl
    rw [e, Bool.and_false]
    exact isPair_no b o n c x w h hn (.inl hx)

/-- Only block g has turned. -/
structure KG (g : Nat) (w w' : World) : Prop where
  os : w'.os = w.os
  tape : w'.tape = w.tape
  output : w'.output = w.output
  size : w.heap.size ≤ w'.heap.size
  block : ∀ k, k < w.heap.size → k ≠ g → w'.heap[k]? = w.heap[k]?
theorem KG.refl (g : Nat) (w : World) : KG g w w := ⟨rfl, rfl, rfl, Nat.le_refl _, fun _ _ _ => rfl⟩
theorem KG.past {g : Nat} {w w1 w2 : World} (h : KG g w w1) (hb : Below w1.heap.size w1 w2) : KG g w w2 :=
  ⟨hb.os.trans h.os, hb.tape.trans h.tape, hb.output.trans h.output, Nat.le_trans h.size hb.size, fun k hk hne => (hb.block k (Nat.lt_of_lt_of_le hk h.size)).trans (h.block k hk hne)⟩
theorem KG.set {g : Nat} {w w1 : World} (h : KG g w w1) (o : Nat) (v : Value) : KG g w (w1.setCell ⟨g, o, none⟩ v) :=
  ⟨h.os, h.tape, h.output, by rw [World.size_setCell]; exact h.size, fun k hk hne => (heap_setCell_other w1 ⟨g, o, none⟩ k v hne).trans (h.block k hk hne)⟩
/-- A row of cells lies in block g. -/
structure MC (w : World) (g : Nat) (l : List CC) : Prop where
  row : ∃ cur, w.heap[g]? = some (.cells cur 54 (0, 0))
  at' : ∀ k, k < l.length → C8 w g (k * 8) (Ac l k)
theorem MC.lt {w : World} {g : Nat} {l : List CC} (h : MC w g l) : g < w.heap.size := by
  obtain ⟨cur, hc⟩ := h.row
  exact (Array.getElem?_eq_some_iff.1 hc).1
theorem MC.free {w : World} {g : Nat} {l : List CC} (h : MC w g l) (k : Nat) : w.frozen? ⟨g, k, none⟩ = false := by
  obtain ⟨cur, hc⟩ := h.row
  simp [World.frozen?, hc]
theorem MC.past {w w' : World} {g : Nat} {l : List CC} (h : MC w g l) (hb : Below w.heap.size w w') : MC w' g l := by
  obtain ⟨cur, hc⟩ := h.row
  exact ⟨⟨cur, (hb.block g h.lt).trans hc⟩, fun k hk => (h.at' k hk).past h.lt hb⟩
/-- Eight cells are written. -/
def set8 (w : World) (g o : Nat) (x : CC) : World :=
  (((((((w.setCell ⟨g, o, none⟩ (.int .i32 x.r)).setCell ⟨g, o + 1, none⟩ (.string x.m)).setCell ⟨g, o + 2, none⟩ (.int .i64 x.h)).setCell ⟨g, o + 3, none⟩ (.int .i64 x.fk)).setCell ⟨g, o + 4, none⟩ (.int .i64 x.fn)).setCell ⟨g, o + 5, none⟩ (.int .i64 x.bk)).setCell ⟨g, o + 6, none⟩ (.int .i64 x.bn)).setCell ⟨g, o + 7, none⟩ (.int .i64 x.fl)
theorem set8_is (w : World) (g o : Nat) (x : CC) : set8 w g o x = w.setCells g o (encC x) := rfl
theorem KG.set8 {g : Nat} {w w1 : World} (h : KG g w w1) (o : Nat) (x : CC) : KG g w (set8 w1 g o x) :=
  (((((((h.set _ _).set _ _).set _ _).set _ _).set _ _).set _ _).set _ _).set _ _
theorem mend_pair (M : List CC) (i : Nat) (h : i + 1 < M.length) (hp : pairB (Ac M i) (Ac M (i + 1)) = true) : M.take i ++ mendL (M.drop i) = M.take (i + 2) ++ mendL (M.drop (i + 2)) := by
  rw [mendL_pair M i h hp, show i + 2 = i + 1 + 1 from rfl, List.take_succ_eq_append_getElem h, List.take_succ_eq_append_getElem (by omega : i < M.length)]
  have e0 : Ac M i = M[i] := by unfold Ac; rw [List.getElem?_eq_getElem (by omega)]; rfl
  have e1 : Ac M (i + 1) = M[i + 1] := by unfold Ac; rw [List.getElem?_eq_getElem h]; rfl
  rw [e0, e1, List.append_assoc, List.append_assoc]
  rfl
theorem mend_keep (M : List CC) (i : Nat) (h : i < M.length) (hp : i + 1 < M.length → pairB (Ac M i) (Ac M (i + 1)) = false) (hs : (Ac M i).h = 0 ∨ (Ac M i).h = 3 ∧ i + 1 = M.length) : M.take i ++ mendL (M.drop i) = M.take (i + 1) ++ mendL (M.drop (i + 1)) := by
  rw [mendL_one M i h hp, if_pos hs, List.take_succ_eq_append_getElem h]
  have e0 : Ac M i = M[i] := by unfold Ac; rw [List.getElem?_eq_getElem (by omega)]; rfl
  rw [e0, List.append_assoc]
  rfl
theorem mend_bare (M : List CC) (i : Nat) (h : i < M.length) (hp : i + 1 < M.length → pairB (Ac M i) (Ac M (i + 1)) = false) (hs : ¬ ((Ac M i).h = 0 ∨ (Ac M i).h = 3 ∧ i + 1 = M.length)) : M.take i ++ mendL (M.drop i) = (M.set i (bare (Ac M i))).take (i + 1) ++ mendL ((M.set i (bare (Ac M i))).drop (i + 1)) := by
  rw [mendL_one M i h hp, if_neg hs, List.take_succ_eq_append_getElem (by simpa using h), List.drop_set_of_lt (by omega), List.take_set_of_le (Nat.le_refl _)]
  simp
theorem MC.set {w : World} {g : Nat} {l : List CC} (h : MC w g l) (i : Nat) (hi : i < l.length) (x : CC) : MC (set8 w g (i * 8) x) g (l.set i x) := by
  obtain ⟨cur, hc⟩ := h.row
  have hx : (encC x).length = 8 := rfl
  have hth : w.there g (i * 8) (encC x).length := fun j hj => ⟨by
    rw [hx] at hj
    have h8 := cellsC_at [Ac l i] 0 j (by simp) hj
    have hs : ((encC (Ac l i))[j]?).isSome := by simp [encC]; omega
    obtain ⟨u, hu⟩ := Option.isSome_iff_exists.1 hs
    rw [(h.at' i hi).enc j u hu]
    rfl, h.free _⟩
  refine ⟨?_, fun k hk => C8.of fun j u hj => ?_⟩
  · rw [set8_is]
    have : ∀ (vs : List Value) (o : Nat) (w : World) (cur : Array Value), w.heap[g]? = some (.cells cur 54 (0, 0)) → ∃ cur', (w.setCells g o vs).heap[g]? = some (.cells cur' 54 (0, 0)) := fun vs => by
      induction vs with
      | nil => exact fun o w cur h => ⟨cur, h⟩
      | cons v r ih => exact fun o w cur h => ih (o + 1) (w.setCell ⟨g, o, none⟩ v) _ (heap_setCell_same w g o cur _ v h)
    exact this _ _ w cur hc
  · have hj8 : j < 8 := by have := (List.getElem?_eq_some_iff.1 hj).1; simpa [encC] using this
    rw [set8_is]
    have hk' : k < l.length := by simpa using hk
    by_cases e : k = i
    · subst e
      have e1 : Ac (l.set k x) k = x := by unfold Ac; rw [List.getElem?_set_self hk']; rfl
      rw [e1] at hj
      exact World.rangeAt_setCells_same w g (k * 8) (encC x) hth j u hj
    · have e1 : Ac (l.set i x) k = Ac l k := by unfold Ac; rw [List.getElem?_set_ne (fun h => e h.symm)]
      rw [e1] at hj
      have hr : w.rangeAt g (k * 8) (encC (Ac l k)) := fun j u hj => (h.at' k hk').enc j u hj
      rcases Nat.lt_or_ge k i with hlt | hge
      · exact World.rangeAt_setCells_apart hr g (i * 8) (encC x) (.inr (.inl (by show k * 8 + 8 ≤ i * 8; omega))) j u hj
      · exact World.rangeAt_setCells_apart hr g (i * 8) (encC x) (.inr (.inr (by show i * 8 + 8 ≤ k * 8; omega))) j u hj
end Go.Proofs.Ytfjgfmeanehpmaa
