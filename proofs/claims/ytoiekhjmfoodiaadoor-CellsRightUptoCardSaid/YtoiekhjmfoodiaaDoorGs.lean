/- Put's closure: a character of two columns. -/
import Derived.Test.YtoiekhjmfoodiaaDoorGr
import Derived.Deep.RegionLaw
namespace Go.Proofs.YtoiekhjmfoodiaaDoor
open Go.RowKit

def leftC (x0 : CC) : CC := ⟨x0.r, ⟨#[]⟩, 1, x0.fk, x0.fn, x0.bk, x0.bn, x0.fl⟩
def rightC (x0 : CC) : CC := ⟨x0.r, ⟨#[]⟩, 2, x0.fk, x0.fn, x0.bk, x0.bn, x0.fl⟩
set_option maxRecDepth 100000 in
set_option maxHeartbeats 8000000 in
theorem putFn_two (g n c x P1 P2 P3 P4 : Nat) (M : List CC) (x0 : CC) (hn : n = M.length) (hl : n ≤ 1000) (hx : x + 1 < n) (w : World) (h : MC w g M) (hp : PutC w P1 P2 P3 P4 x0 2 x) :
    Calls Tryd.prog 49 #[.slice (some ⟨g, 0, none⟩) n c, .pointer (some ⟨P1, 0, none⟩), .pointer (some ⟨P2, 0, none⟩), .pointer (some ⟨P3, 0, none⟩), .pointer (some ⟨P4, 0, none⟩)] w fun e w' => e = .returned (.tuple #[]) ∧ MC w' g ((M.set x (leftC x0)).set (x + 1) (rightC x0)) ∧ KG g w w' := by
  have HO := Lib.hid (otherHalf_left (leftC x0) rfl)
  simp only [leftC] at HO
  have hb0 := belA (Below.refl w.heap.size w) (.cells #[.int .i32 x0.r, .string ⟨#[]⟩, .int .i64 0, .int .i64 x0.fk, .int .i64 x0.fn, .int .i64 x0.bk, .int .i64 x0.bn, .int .i64 x0.fl] 44)
  have hb1 := belA (Below.refl w.heap.size w) (.cells #[.int .i32 x0.r, .string ⟨#[]⟩, .int .i64 1, .int .i64 x0.fk, .int .i64 x0.fn, .int .i64 x0.bk, .int .i64 x0.bn, .int .i64 x0.fl] 44)
  have hnew := heap_alloc_new w (.cells #[.int .i32 x0.r, .string ⟨#[]⟩, .int .i64 1, .int .i64 x0.fk, .int .i64 x0.fn, .int .i64 x0.bk, .int .i64 x0.bn, .int .i64 x0.fl] 44)
  have c1 := cell_of_row _ _ 0 _ _ _ hp.h1
  have d0 := cell_of_row _ _ 0 _ _ _ hp.h2
  have d1 := cell_of_row _ _ 1 _ _ _ hp.h2
  have d2 := cell_of_row _ _ 2 _ _ _ hp.h2
  have d3 := cell_of_row _ _ 3 _ _ _ hp.h2
  have d4 := cell_of_row _ _ 4 _ _ _ hp.h2
  have c3 := cell_of_row _ _ 0 _ _ _ (hp.past hb0).h3
  have c4 := cell_of_row _ _ 0 _ _ _ (hp.past hb0).h4
  have c41 := cell_of_row _ _ 0 _ _ _ (hp.past hb1).h4
  have hwx : IntKind.i64.wrap ((x : Int) + 1) = (x : Int) + 1 := by rw [IntKind.wrap_i64]; omega
  have hxn : (x : Int) < n := by omega
  have hxn1 : (x : Int) + 1 < n := by omega
  have hx01 : (0 : Int) ≤ (x : Int) + 1 := by omega
  have hd : decide ((x : Int) + 1 < n) = true := decide_eq_true hxn1
  generalize hW1 : w.alloc (.cells #[.int .i32 x0.r, .string ⟨#[]⟩, .int .i64 1, .int .i64 x0.fk, .int .i64 x0.fn, .int .i64 x0.bk, .int .i64 x0.bn, .int .i64 x0.fl] 44) = W1 at *
  have HZ : Hid (∀ w5, Below W1.heap.size W1 w5 → (w5.cell? ⟨P4, 0, none⟩ = some (.int .i64 x)) ∧ C8 w5 w.heap.size 0 (leftC x0) ∧ C8 w5 g (x * 8) (Ac M x) ∧ C8 w5 g ((x + 1) * 8) (Ac M (x + 1)) ∧ (g < w5.heap.size) ∧ (∀ k, w5.frozen? ⟨g, k, none⟩ = false) ∧ C8 (set8 w5 g (x * 8) (leftC x0)) g ((x + 1) * 8) (Ac M (x + 1)) ∧ (∀ k, (set8 w5 g (x * 8) (leftC x0)).frozen? ⟨g, k, none⟩ = false) ∧ (g < (set8 w5 g (x * 8) (leftC x0)).heap.size) ∧ ((set8 w5 g (x * 8) (leftC x0)).cell? ⟨P4, 0, none⟩ = some (.int .i64 x)) ∧ C8 (set8 w5 g (x * 8) (leftC x0)) w.heap.size 0 (leftC x0) ∧ Hid (MC (set8 (set8 w5 g (x * 8) (leftC x0)) g ((x + 1) * 8) (rightC x0)) g ((M.set x (leftC x0)).set (x + 1) (rightC x0)) ∧ KG g w (set8 (set8 w5 g (x * 8) (leftC x0)) g ((x + 1) * 8) (rightC x0)))) := Lib.hid fun w5 hb => by
    have hm := h.past (bel0 hb1 hb)
    have hbx := (hb.block w.heap.size (Array.getElem?_eq_some_iff.1 hnew).1).trans hnew
    have hp5 := (hp.past (bel0 hb1 hb)).h4
    have hne4 : P4 ≠ g := fun e => by
      obtain ⟨cur, hc⟩ := hm.row
      rw [e, hc] at hp5
      injection hp5 with hp5
      injection hp5 with _ h1 _
      exact absurd h1 (by decide)
    have hneb : w.heap.size ≠ g := fun e => by have := h.lt; omega
    have hh : ∀ (i : Nat), i ≠ g → (set8 w5 g (x * 8) (leftC x0)).heap[i]? = w5.heap[i]? := fun i hi => by
      have h1 : ∀ (W : World) (o : Nat) (v : Value), (W.setCell ⟨g, o, none⟩ v).heap[i]? = W.heap[i]? := fun W o v => heap_setCell_other W ⟨g, o, none⟩ i v hi
      unfold set8
      rw [h1, h1, h1, h1, h1, h1, h1, h1]
    refine ⟨cell_of_row _ _ 0 _ _ _ ((hp.past (bel0 hb1 hb)).h4), C8.of fun j u hj => ?_, hm.at' x (by omega), hm.at' (x + 1) (by omega), hm.lt, hm.free, ?_, (hm.set x (by omega) (leftC x0)).free, (hm.set x (by omega) (leftC x0)).lt, ?_, ?_, Lib.hid ⟨(hm.set x (by omega) (leftC x0)).set (x + 1) (by rw [List.length_set]; omega) (rightC x0), (((KG.refl g w).past (bel0 hb1 hb)).set8 _ _).set8 _ _⟩⟩
    · rw [Nat.zero_add, cell_of_row _ _ j _ _ _ hbx, ← hj]
      simp [encC, leftC]
    · have h2 := (hm.set x (by omega) (leftC x0)).at' (x + 1) (by rw [List.length_set]; omega)
      have e : Ac (M.set x (leftC x0)) (x + 1) = Ac M (x + 1) := by unfold Ac; rw [List.getElem?_set_ne (by omega)]
      rwa [e] at h2
    · exact cell_of_row _ _ 0 _ _ _ ((hh P4 hne4).trans hp5)
    · refine C8.of fun j u hj => ?_
      rw [Nat.zero_add, cell_of_row _ _ j _ _ _ ((hh w.heap.size hneb).trans hbx), ← hj]
      simp [encC, leftC]
  subst hW1
  clear h hp hnew hb0 hb1 hn
  generalize Ac M x = y at *
  generalize Ac M (x + 1) = y' at *
  go_enter Tryd.func49, Tryd.ntmps49
  go_wp2
  clear c1 d0 d1 d2 d3 d4 c3 c4
  go_region_law (first
    | (go_simp; go_at_call 50; (with_reducible refine (HO.out _).mono ?_); rintro e5 w5 ⟨rfl, hb5⟩; obtain ⟨k4, ⟨l0, l1, l2, l3, l4, l5, l6, l7⟩, ⟨y0, y1, y2, y3, y4, y5, y6, y7⟩, ⟨z0, z1, z2, z3, z4, z5, z6, z7⟩, hgl, hfr, ⟨q0, q1, q2, q3, q4, q5, q6, q7⟩, hfr2, hgl2, k42, ⟨m0, m1, m2, m3, m4, m5, m6, m7⟩, HFIN⟩ := HZ.out _ (belD hb5); simp only [Nat.zero_add] at l1 l2 l3 l4 l5 l6 l7 m1 m2 m3 m4 m5 m6 m7; simp only [leftC] at l0 l1 l2 l3 l4 l5 l6 l7; simp only [set8, leftC] at q0 q1 q2 q3 q4 q5 q6 q7 hfr2 hgl2 k42 m0 m1 m2 m3 m4 m5 m6 m7; clear hb5))
  all_goals
    go_wp2
    go_end0
    exact ⟨rfl, HFIN.out.1, HFIN.out.2⟩
end Go.Proofs.YtoiekhjmfoodiaaDoor
