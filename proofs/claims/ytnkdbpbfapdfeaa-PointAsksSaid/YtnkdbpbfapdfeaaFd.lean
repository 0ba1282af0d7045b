/- The walks of slices.Clone at places, and of Sort. -/
import Derived.Test.YtnkdbpbfapdfeaaFc
namespace Go.Proofs.Ytnkdbpbfapdfeaa
open Go.RowKit Go.Sort

set_option maxHeartbeats 2000000 in
set_option maxRecDepth 100000 in
theorem clone_any (A : Option Addr) (l : List (Int × Int)) (n cp : Nat) (hn : n = l.length) (hl : n ≤ 1000) (w : World) (h : RPl w w.heap.size A l) :
    Calls Try.prog 29 #[.slice A n cp] w fun e w' => ∃ v, e = .returned v ∧ Below w.heap.size w w' ∧ w'.ownsRow w.heap.size 30 2 v n (cellsP l) := by
  have hne : ∀ (W : World) (a : Option Addr) (n c n' c' : Nat), (binOp .eql 40 (.slice a n c) (.slice none n' c')).run Try.prog W = .ok (.bool a.isNone) W := fun W a n c n' c' => Lib.run_eql_slice_nil W _ _ a n c n' c' Try.underlying40
  cases A with
  | none =>
    have hl0 : l = [] := by
      rcases l with _ | ⟨x, l⟩
      · rfl
      · obtain ⟨b, off, e, _⟩ := h (by simp)
        cases e
    subst hl0
    have hn0 : n = 0 := hn
    subst hn0
    clear h hn
    go_enter Try.func29, Try.ntmps29
    go_wp2
    go_ret
    exact ⟨_, rfl, Below.refl _ _, World.ownsRow_nil _ _ _ _⟩
  | some ad =>
    obtain ⟨i0, hi0, hz0, hz1, hz2⟩ := info_parts infoPos
    have HNEW : Hid (∀ j u, (cellsP l)[j]? = some u → (w.alloc (.cells #[] 30)).cell? (ad.add j) = some u) := Lib.hid fun j u hj => by
      have hne2 : l ≠ [] := fun e => by rw [e] at hj; simp [cellsP] at hj
      obtain ⟨b, off, e, hlt, hc⟩ := (h.past (belA (Below.refl _ _) (.cells #[] 30))) hne2
      cases e
      exact RPl.news hc j u hj
    have HONE := Lib.hid (cellsP_one l)
    have hlen : (cellsP l).length = n * 2 := by rw [cellsP_len, hn]
    have HLEN := Lib.hid hlen
    have HOWN : Hid ((w.alloc (.cells #[] 30)).ownsRow w.heap.size 30 2 (.slice (some ⟨w.heap.size, 0, none⟩) 0 0) 0 []) := Lib.hid (World.ownsRow_made w #[] 0 (Nat.le_refl _) (by unfold maxLen; omega) rfl)
    have HEND : Hid (∀ w5 v, (w.alloc (.cells #[] 30)).grownBy w5 (some w.heap.size) → w5.ownsRow w.heap.size 30 2 v (0 + n) ([] ++ cellsP l) → Below w.heap.size w w5 ∧ w5.ownsRow w.heap.size 30 2 v n (cellsP l)) := Lib.hid fun w5 v hg ho =>
      ⟨((Below.refl w.heap.size w).alloc (Nat.le_refl _) _).grown hg (by simp) (fun k e => by cases e; exact Nat.le_refl _), by rw [Nat.zero_add] at ho; exact ho⟩
    clear h hn hlen
    generalize cellsP l = cs at *
    go_enter Try.func29, Try.ntmps29
    go_wp2_with (at_builtin; go_must (refine wpList_append_own _ rfl _ _ 40 rfl w.heap.size 30 i0 _ 2 16 Try.underlying40 hi0 hz0 hz1 hz2 rfl (by decide) (.slice (some ⟨w.heap.size, 0, none⟩) 0 0) 0 [] rfl HOWN.out ad n cp cs rfl HLEN.out HNEW.out HONE.out (by unfold maxLen; omega) (by omega) (by simp) ?_; intro v5 w5 hown5 hgrow5 _; have HZ := Lib.hid (HEND.out _ _ hgrow5 hown5); clear hown5 hgrow5))
    go_ret
    exact ⟨_, rfl, HZ.out.1, HZ.out.2⟩

set_option maxRecDepth 100000 in
theorem lt_posC (a b : Int × Int) : ltOf posC a b = lessB a.1 a.2 b.1 b.2 := by
  have e : posC a b = if cmpI a.1 b.1 = 0 then cmpI a.2 b.2 else cmpI a.1 b.1 := rfl
  unfold ltOf lessB
  rw [e]
  unfold cmpI
  have h : ((if (if a.1 < b.1 then (-1 : Int) else if b.1 < a.1 then 1 else 0) = 0 then (if a.2 < b.2 then (-1 : Int) else if b.2 < a.2 then 1 else 0) else (if a.1 < b.1 then (-1 : Int) else if b.1 < a.1 then 1 else 0)) < 0) ↔ (a.1 < b.1 ∨ a.1 = b.1 ∧ a.2 < b.2) := by
    repeat' split
    all_goals omega
  exact decide_eq_decide.2 h
set_option maxRecDepth 100000 in
theorem swoPos : SWO (ltOf posC) where
  irrefl x := by rw [lt_posC]; simp [lessB]
  trans x y z h1 h2 := by
    rw [lt_posC] at *
    simp only [lessB, decide_eq_true_eq] at *
    omega
  ntrans x y z h1 h2 := by
    rw [lt_posC] at *
    simp only [lessB, decide_eq_false_iff_not] at *
    omega
set_option maxRecDepth 100000 in
theorem below_sort {B g m : Nat} {w w2 : World} {d : Array (Int × Int)} {os : Array Obj} (hb : Go.RowKit.Below B w w2) (hg : B ≤ g) (hB : B ≤ w2.heap.size) : Go.RowKit.Below B w (sortWorldK encP 2 w2 g 0 m d os) := by
  have hblk : ∀ b, b < B → (sortWorldK encP 2 w2 g 0 m d os).heap[b]? = w.heap[b]? := fun b hlt => by
    refine Eq.trans ?_ (hb.block b hlt)
    have h1 : b < w2.heap.size := Nat.lt_of_lt_of_le hlt hB
    simp only [sortWorldK, putRowK, putRow, mapBlock, grow, Sort.ahead]
    rw [Array.getElem?_append_left (by simpa using h1), Array.getElem?_modify, if_neg (by omega)]
  refine ⟨hb.os, hb.tape, hb.output, Nat.le_trans hb.size ?_, hblk⟩
  simp [sortWorldK, putRowK, putRow, mapBlock, grow, Sort.ahead]
end Go.Proofs.Ytnkdbpbfapdfeaa
