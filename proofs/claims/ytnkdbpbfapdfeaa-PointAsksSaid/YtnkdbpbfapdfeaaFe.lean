/- Sort's walk. -/
import Derived.Test.YtnkdbpbfapdfeaaFd
import Derived.Test.YtnkdbpbfapdfeaaKi
namespace Go.Proofs.Ytnkdbpbfapdfeaa
open Go.RowKit Go.Sort

def srt (l : List (Int × Int)) : List (Int × Int) := l.mergeSort fun x y => !(ltOf posC) y x
set_option maxRecDepth 100000 in
theorem srt_len (l : List (Int × Int)) : (srt l).length = l.length := List.length_mergeSort _
set_option maxRecDepth 100000 in
theorem lt_one (x y : Int × Int) (h1 : ltOf posC x y = false) (h2 : ltOf posC y x = false) : x = y := by
  rw [lt_posC] at h1 h2
  simp only [lessB, decide_eq_false_iff_not] at h1 h2
  obtain ⟨a, b⟩ := x
  obtain ⟨c, d⟩ := y
  simp only [Prod.mk.injEq]
  simp only at h1 h2
  omega
set_option maxRecDepth 100000 in
theorem sortf_any (B : Nat) (w0 w : World) (A : Option Addr) (c : Nat) (l : List (Int × Int)) (n : Nat) (hn : n = l.length) (hl : n ≤ 1000) (ho : w.ownsRow B 30 2 (.slice A n c) n (cellsP l)) (hb : Go.RowKit.Below B w0 w) (hB : B ≤ w.heap.size) :
    Calls Try.prog 45 #[.slice A n c, .func (.func 46) #[] #[]] w fun e w' => e = .returned (.tuple #[]) ∧ Go.RowKit.Below B w0 w' ∧ RPl w' w'.heap.size A (srt l) := by
  subst hn
  by_cases hne : l = []
  · subst hne
    have hcon := AnyF.slices_SortFunc_none Try.laysSP A c (.func (.func 46) #[] #[]) w
    change Calls Try.prog 45 _ _ _ at hcon
    refine hcon.mono fun e w' ⟨he, hw⟩ => ?_
    subst hw
    exact ⟨he, hb, fun h => absurd (by simp [srt]) h⟩
  · rcases ho.2 with ⟨_, h0⟩ | ⟨g', cap, cur, e, _, _⟩
    · exact absurd (List.eq_nil_of_length_eq_zero h0) hne
    · injection e with e1 _ e3
      subst e1
      obtain ⟨hH, hBg, hg⟩ := holds_of_own ho hne
      have eg : ∀ args W, (callFunc 46 args).run Try.prog W = .ok (.enter 46 args) W := enters_of Try.func46 (by kernel_rfl) rfl
      have hcon := AnyQ.slices_SortFunc_total Try.laysSP 2 Try.isAgg30 Try.sizeOf30 encP (fun _ => rfl) (fun x v hv => by simp only [encP, List.mem_cons, List.not_mem_nil, or_false] at hv; rcases hv with rfl | rfl <;> rfl) posC swoPos 46 #[] g' 0 c l.toArray w eg (fun _ _ _ _ x y => closure_any x.1 x.2 y.1 y.2 _) hH hg (by simp; omega) lt_one
      change Calls Try.prog 45 _ _ _ at hcon
      rw [List.size_toArray] at hcon
      refine hcon.mono fun e w' ⟨he, m, os, hw⟩ => ?_
      subst hw
      refine ⟨he, below_sort hb hBg hB, ?_⟩
      have hK := holdsK_sortWorldK encP 2 w g' 0 m l.toArray (srt l).toArray os hg hH (by simp [srt_len])
      have hL := lt_sortWorldK encP 2 w g' 0 m (srt l).toArray os hg
      have h := rows_of_holds hK hL
      exact h
set_option maxRecDepth 100000 in
theorem sort_any (A : Option Addr) (l : List (Int × Int)) (n cp : Nat) (hn : n = l.length) (hl : n ≤ 1000) (w : World) (h : RPl w w.heap.size A l) :
    Calls Try.prog 28 #[.slice A n cp] w fun e w' => ∃ A' cp', e = .returned (.slice A' n cp') ∧ Go.RowKit.Below w.heap.size w w' ∧ RPl w' w'.heap.size A' (srt l) := by
  have HC := Lib.hid (clone_any A l n cp hn hl)
  have HS := Lib.hid (fun B w0 w A c => sortf_any B w0 w A c l n hn hl)
  have HR := Lib.hid h
  clear hn h
  generalize srt l = sl at *
  generalize cellsP l = cs at *
  go_enter Try.func28, Try.ntmps28
  go_wp2_with (first
    | (go_at_call 29; (with_reducible refine (HC.out _ (HR.out)).mono ?_); rintro e w1 ⟨v, rfl, hb, ho⟩; obtain ⟨A1, c1, rfl, _⟩ := own_form ho; have HO := Lib.hid ho; have HB := Lib.hid hb; clear ho hb)
    | (go_at_call 45; (with_reducible refine (HS.out _ _ _ _ _ HO.out HB.out (HB.out).size).mono ?_); rintro e w2 ⟨rfl, hb2, hr2⟩; have HB2 := Lib.hid hb2; have HR2 := Lib.hid hr2; clear hb2 hr2))
  go_ret
  exact ⟨_, _, rfl, HB2.out, HR2.out⟩
end Go.Proofs.Ytnkdbpbfapdfeaa
