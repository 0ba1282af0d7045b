/- The walk of slices.Clone at cells. -/
import Derived.Test.YtfjgfmeanehpmaaGc
namespace Go.Proofs.Ytfjgfmeanehpmaa
open Go.RowKit

set_option maxHeartbeats 2000000 in
theorem cloneC_any (A : Option Addr) (l : List CC) (n cp : Nat) (hn : n = l.length) (hl : n ≤ 100000) (w : World) (h : RC w w.heap.size A l) :
    Calls Try.prog 46 #[.slice A n cp] w fun e w' => ∃ v, e = .returned v ∧ Below w.heap.size w w' ∧ w'.ownsRow w.heap.size 54 8 v n (cellsC l) := by
  have hne : ∀ (W : World) (a : Option Addr) (n c n' c' : Nat), (binOp .eql 29 (.slice a n c) (.slice none n' c')).run Try.prog W = .ok (.bool a.isNone) W := fun W a n c n' c' => Lib.run_eql_slice_nil W _ _ a n c n' c' Try.underlying29
  cases A with
  | none =>
    have hl0 : l = [] := by
      rcases l with _ | ⟨x, l⟩
      · rfl
      · obtain ⟨b, off, e, _⟩ := h (by simp)
        cases e
    subst hl0
    have hn0 : n = 0 := hn
    subst hn0
    clear h hn
    go_enter Try.func46, Try.ntmps46
    go_wp2
    go_ret
    exact ⟨_, rfl, Below.refl _ _, World.ownsRow_nil _ _ _ _⟩
  | some ad =>
    obtain ⟨i0, hi0, hz0, hz1, hz2⟩ := info_parts infoCell
    have HNEW : Hid (∀ j u, (cellsC l)[j]? = some u → (w.alloc (.cells #[] 54)).cell? (ad.add j) = some u) := Lib.hid fun j u hj => by
      have hne2 : l ≠ [] := fun e => by rw [e] at hj; simp [cellsC] at hj
      obtain ⟨b, off, e, hlt, hc⟩ := (h.past (belA (Below.refl _ _) (.cells #[] 54))) hne2
      cases e
      exact RC.news hc j u hj
    have HONE := Lib.hid (cellsC_one l)
    have hlen : (cellsC l).length = n * 8 := by rw [cellsC_len, hn]
    have HLEN := Lib.hid hlen
    have HOWN : Hid ((w.alloc (.cells #[] 54)).ownsRow w.heap.size 54 8 (.slice (some ⟨w.heap.size, 0, none⟩) 0 0) 0 []) := Lib.hid (World.ownsRow_made w #[] 0 (Nat.le_refl _) (by unfold maxLen; omega) rfl)
    have HEND : Hid (∀ w5 v, (w.alloc (.cells #[] 54)).grownBy w5 (some w.heap.size) → w5.ownsRow w.heap.size 54 8 v (0 + n) ([] ++ cellsC l) → Below w.heap.size w w5 ∧ w5.ownsRow w.heap.size 54 8 v n (cellsC l)) := Lib.hid fun w5 v hg ho =>
      ⟨((Below.refl w.heap.size w).alloc (Nat.le_refl _) _).grown hg (by simp) (fun k e => by cases e; exact Nat.le_refl _), by rw [Nat.zero_add] at ho; exact ho⟩
    clear h hn hlen
    generalize cellsC l = cs at *
    go_enter Try.func46, Try.ntmps46
    go_wp2_with (at_builtin; go_must (refine wpList_append_own _ rfl _ _ 29 rfl w.heap.size 54 i0 _ 8 72 Try.underlying29 hi0 hz0 hz1 hz2 rfl (by decide) (.slice (some ⟨w.heap.size, 0, none⟩) 0 0) 0 [] rfl HOWN.out ad n cp cs rfl HLEN.out HNEW.out HONE.out (by unfold maxLen; omega) (by omega) (by simp) ?_; intro v5 w5 hown5 hgrow5 _; have HZ := Lib.hid (HEND.out _ _ hgrow5 hown5); clear hown5 hgrow5))
    go_ret
    exact ⟨_, rfl, HZ.out.1, HZ.out.2⟩

end Go.Proofs.Ytfjgfmeanehpmaa

