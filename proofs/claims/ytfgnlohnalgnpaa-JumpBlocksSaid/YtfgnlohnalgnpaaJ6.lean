/- The walk of jump.Sort. -/
import Derived.Test.YtfgnlohnalgnpaaJ4
import Derived.Test.YtfgnlohnalgnpaaJ5
namespace Go.Proofs.Ytfgnlohnalgnpaa
open Go.RowKit Go.Sort Go.Lib

theorem holds_own1 {w : World} {B g n c : Nat} {xs : List Int} (hn : n = xs.length) (h : w.ownsRow B 3 1 (.slice (some ⟨g, 0, none⟩) n c) n (xs.map (Value.int .i64))) (hne : xs ≠ []) : Holds (Value.int .i64) w g 0 xs.toArray ∧ B ≤ g ∧ g < w.heap.size ∧ n ≤ c := by
  subst hn
  rcases h.2 with ⟨_, h0⟩ | ⟨g', cap, cur, e, hb, hh, h1, _, _, ht⟩
  · exact absurd (List.eq_nil_of_length_eq_zero h0) hne
  · injection e with e1 _ e3
    injection e1 with e1
    injection e1 with e1 _ _
    subst e1; subst e3
    refine ⟨fun j hj => ?_, hb, (Array.getElem?_eq_some_iff.1 hh).1, h1⟩
    have hj' : j < xs.length := by simpa using hj
    refine ⟨?_, by simp [World.frozen?, hh]⟩
    rw [Nat.zero_add, cell_of_row w g j cur _ _ hh]
    have e2 : (cur.toList.take (xs.length * 1))[j]? = (xs.map (Value.int .i64))[j]? := by rw [ht]
    rw [List.getElem?_take, if_pos (by omega), List.getElem?_map, List.getElem?_eq_getElem hj'] at e2
    rw [show cur[j]? = cur.toList[j]? by simp, e2, getElem!_pos xs.toArray j (by simpa using hj)]
    simp
theorem below_putI {B g m : Nat} {w w2 : World} {d : Array Int} {os : Array Obj} (hb : Go.RowKit.Below B w w2) (hg : B ≤ g) (hB : B ≤ w2.heap.size) : Go.RowKit.Below B w (grow (putRow (Value.int .i64) (Sort.ahead w2 m) g 0 d) os) := by
  have hblk : ∀ b, b < B → (grow (putRow (Value.int .i64) (Sort.ahead w2 m) g 0 d) os).heap[b]? = w.heap[b]? := fun b hlt => by
    refine Eq.trans ?_ (hb.block b hlt)
    have h1 : b < w2.heap.size := Nat.lt_of_lt_of_le hlt hB
    simp only [putRow, mapBlock, grow, Sort.ahead]
    rw [Array.getElem?_append_left (by simpa using h1), Array.getElem?_modify, if_neg (by omega)]
  refine ⟨hb.os, hb.tape, hb.output, Nat.le_trans hb.size ?_, hblk⟩
  simp [putRow, mapBlock, grow, Sort.ahead]
/-- A slice that reads as numbers. -/
def NumsPost (L : List Int) (w : World) (e : Ending) (w' : World) : Prop := ∃ A c, e = .returned (.slice A L.length c) ∧ RI w' w'.heap.size A L ∧ Go.RowKit.Below w.heap.size w w'
theorem clone1_any (A : Option Addr) (l : List Int) (n c : Nat) (hn : n = l.length) (hl : n ≤ 1000000) (w : World) (h : RI w w.heap.size A l) :
    Calls Try.prog 32 #[.slice A n c] w fun e w' => ∃ A' c', e = .returned (.slice A' n c') ∧ w'.ownsRow w.heap.size 3 1 (.slice A' n c') n (l.map (Value.int .i64)) ∧ Go.RowKit.Below w.heap.size w w' := by
  by_cases hne : l = []
  · subst hne
    simp only [List.length_nil] at hn
    subst hn
    cases A with
    | none => exact (Try.slices_Clone_int_nil 0 c w).mono fun e w' h => ⟨none, 0, h.1, h.2 ▸ ⟨World.ownsRow_nil _ _ _ _, Go.RowKit.Below.refl _ _⟩⟩
    | some a =>
      refine (Try.slices_Clone_int_zero a c w).mono fun e w' ⟨v, he, ho, _, hb⟩ => ?_
      obtain ⟨A', c', rfl, _⟩ := own_form ho
      exact ⟨A', c', he, ho, hb⟩
  · obtain ⟨b, off, rfl, hlt, hc⟩ := h hne
    subst hn
    refine (Try.slices_Clone_int b off l.length c l w (Nat.le_refl _) (by omega) (fun j hj => ?_)).mono fun e w' ⟨v, he, ho, _, hb⟩ => ?_
    · rw [hc j hj, List.getD_eq_getElem?_getD]
    · rw [List.take_length] at ho
      obtain ⟨A', c', rfl, _⟩ := own_form ho
      exact ⟨A', c', he, ho, hb⟩
/-- What is left of a row that is sorted. -/
theorem sorted_any (B g c : Nat) (l : List Int) (hl : l.length ≤ 1000000) (w : World) (hH : Holds (Value.int .i64) w g 0 l.toArray) (hB : B ≤ g) (hg : g < w.heap.size) (w0 : World) (hb : Go.RowKit.Below B w0 w) :
    Calls Try.prog 33 #[.slice (some ⟨g, 0, none⟩) l.length c] w fun e w' => e = .returned (.tuple #[]) ∧ Holds (Value.int .i64) w' g 0 (srtI l).toArray ∧ g < w'.heap.size ∧ Go.RowKit.Below B w0 w' := by
  refine (Try.slices_Sort_int g 0 c l w hH hg (by omega)).mono fun e w' ⟨he, n, os, hw⟩ => ?_
  subst hw
  have hs : g < (putRow (Value.int .i64) (Sort.ahead w n) g 0 (srtI l).toArray).heap.size := by simpa [Sort.ahead] using hg
  refine ⟨he, holds_grow _ _ _ _ _ _ hs (holds_putRow _ _ _ _ l.toArray _ hH (by simp)), ?_, below_putI hb hB (by omega)⟩
  simp [grow, Sort.ahead]
  omega
theorem compact_any (B g c : Nat) (l : List Int) (n : Nat) (hn : n = (srtI l).length) (hc : n ≤ c) (hl : n ≤ 1000000) (w : World) (hH : Holds (Value.int .i64) w g 0 (srtI l).toArray) (hB : B ≤ g) (hg : g < w.heap.size) (w0 : World) (hb : Go.RowKit.Below B w0 w) :
    Calls Try.prog 34 #[.slice (some ⟨g, 0, none⟩) n c] w fun e w' => e = .returned (.slice (some ⟨g, 0, none⟩) (uqI l).length c) ∧ RI w' w'.heap.size (some ⟨g, 0, none⟩) (uqI l) ∧ Go.RowKit.Below B w0 w' := by
  subst hn
  have hcon := Try.slices_Compact_int g 0 c (srtI l) w hH (by omega) hc
  rw [show Go.Lib.compact (srtI l) = uqI l from rfl] at hcon
  refine hcon.mono fun e w' ⟨he, q, hw⟩ => ?_
  subst hw
  have hle : (uqI l).length ≤ (srtI l).length := by rw [srtI_len]; exact uqI_len l
  have hP := holds_putRow (Value.int .i64) (Sort.ahead w q) g 0 (srtI l).toArray (uqI l ++ List.replicate ((srtI l).length - (uqI l).length) 0).toArray hH (by simp; omega)
  refine ⟨he, fun _ => ⟨g, 0, rfl, by simpa [Sort.ahead] using hg, fun k hk => ?_⟩, ?_⟩
  · have h1 := (hP k (by simp; omega)).1
    rw [h1, getElem!_pos _ k (by simp; omega), List.getElem_toArray, List.getElem_append_left hk, List.getElem?_eq_getElem hk]
    rfl
  · have := below_putI (m := q) (d := (uqI l ++ List.replicate ((srtI l).length - (uqI l).length) 0).toArray) (os := #[]) hb hB (by omega)
    rwa [grow_empty] at this
set_option maxRecDepth 100000 in
set_option maxHeartbeats 4000000 in
theorem sort_any (A : Option Addr) (l : List Int) (n c : Nat) (hn : n = l.length) (hl : n ≤ 1000000) (w : World) (h : RI w w.heap.size A l) :
    Calls Try.prog 18 #[.slice A n c] w (NumsPost (uqI l) w) := by
  have HC := Lib.hid (clone1_any A l n c hn hl w h)
  by_cases hne : l = []
  · subst hne
    simp only [List.length_nil] at hn
    subst hn
    have HS := Lib.hid (fun p c W => Try.slices_Sort_int_none p c W)
    have HK := Lib.hid (fun p c W => Try.slices_Compact_int_empty p c W)
    clear h hl
    unfold NumsPost
    have hu : (uqI []).length = 0 := Nat.le_zero.1 (uqI_len [])
    rw [hu]
    go_enter Try.func18, Try.ntmps18
    go_wp2_with (first
      | (go_at_call 32; (with_reducible refine HC.out.mono ?_); rintro e w1 ⟨A1, c1, rfl, ho, hb⟩; have HB1 := Lib.hid hb; clear ho hb)
      | (go_at_call 33; (with_reducible refine (HS.out _ _ _).mono ?_); rintro e w2 ⟨rfl, rfl⟩)
      | (go_at_call 34; (with_reducible refine (HK.out _ _ _).mono ?_); rintro e w3 ⟨rfl, rfl⟩))
    go_ret
    exact ⟨A1, c1, rfl, fun h => absurd (List.length_pos_iff.2 h) (by rw [hu]; omega), HB1.out⟩
  · have HS : Hid (∀ W A1 c1, W.ownsRow w.heap.size 3 1 (.slice A1 n c1) n (l.map (Value.int .i64)) → Go.RowKit.Below w.heap.size w W → Calls Try.prog 33 #[.slice A1 n c1] W fun e w' => e = .returned (.tuple #[]) ∧ ∀ W', W' = w' → Calls Try.prog 34 #[.slice A1 n c1] W' (NumsPost (uqI l) w)) := Lib.hid fun W A1 c1 ho hb => by
      obtain ⟨A', c', e, hA⟩ := own_form ho
      injection e with e1 _ e3
      subst e1; subst e3
      obtain ⟨g, rfl⟩ := hA (by rw [hn]; exact List.length_pos_iff.2 hne)
      obtain ⟨hH, hB, hg, hc⟩ := holds_own1 hn ho hne
      subst hn
      refine (sorted_any w.heap.size g c1 l hl W hH hB hg w hb).mono fun e w' ⟨he, hH', hg', hb'⟩ => ⟨he, fun W' hW => ?_⟩
      subst hW
      exact (compact_any w.heap.size g c1 l l.length (srtI_len l).symm hc hl W' hH' hB hg' w hb').mono fun e w' h => ⟨_, c1, h.1, h.2.1, h.2.2⟩
    clear h hl hne hn
    go_enter Try.func18, Try.ntmps18
    go_wp2_with (first
      | (go_at_call 32; (with_reducible refine HC.out.mono ?_); rintro e w1 ⟨A1, c1, rfl, ho, hb⟩; have HS1 := Lib.hid (HS.out w1 A1 c1 ho hb); clear ho hb HS)
      | (go_at_call 33; (with_reducible refine (HS1.out).mono ?_); rintro e w2 ⟨rfl, hk⟩; have HK := Lib.hid (hk w2 rfl); clear hk HS1)
      | (go_at_call 34; (with_reducible refine (HK.out).mono ?_); rintro e w3 ⟨A3, c3, rfl, hr, hb⟩; have HR := Lib.hid hr; have HB := Lib.hid hb; clear hr hb HK))
    go_ret
    exact ⟨A3, c3, rfl, HR.out, HB.out⟩

end Go.Proofs.Ytfgnlohnalgnpaa
