/- Swap of two needles in memory. -/
import Derived.Test.YtjifekdjkjnefaaH2
import Derived.Deep.RegionLaw
import Derived.StillTailTactics
namespace Go.Proofs.Ytjifekdjkjnefaa
open Go.RowKit

theorem row_has {W : World} {g : Nat} {A : Array Value} {t : TypeId} (h : W.heap[g]? = some (.cells A t (0, 0))) (k : Nat) (hk : k < A.size) : ∃ v, W.cell? ⟨g, k, none⟩ = some v := ⟨A[k], row_cell h k _ (Array.getElem?_eq_getElem hk)⟩
theorem row_free {W : World} {g : Nat} {A : Array Value} {t : TypeId} (h : W.heap[g]? = some (.cells A t (0, 0))) (k : Nat) : W.frozen? ⟨g, k, none⟩ = false := by simp [World.frozen?, h]
set_option maxRecDepth 100000 in
set_option maxHeartbeats 4000000 in
theorem swap_at (G N c i j : Nat) (wi wj : Int) (Ai Aj : Option Addr) (ni ci nj cj : Nat) (hiN : i < N) (hjN : j < N) (cur : Array Value) (t : TypeId) (hsz : N * 2 ≤ cur.size) (w : World) (hG : w.heap[G]? = some (.cells cur t (0, 0)))
    (c0 : w.cell? ⟨G, i * 2, none⟩ = some (.int .i64 wi)) (c1 : w.cell? ⟨G, i * 2 + 1, none⟩ = some (.slice Ai ni ci)) (d0 : w.cell? ⟨G, j * 2, none⟩ = some (.int .i64 wj)) (d1 : w.cell? ⟨G, j * 2 + 1, none⟩ = some (.slice Aj nj cj)) :
    Calls Try.prog 63 #[.slice (some ⟨G, 0, none⟩) N c, .int .i64 i, .int .i64 j] w fun e w' => e = .returned (.tuple #[]) ∧ ((((w.setCell ⟨G, i * 2, none⟩ (.int .i64 wj)).setCell ⟨G, i * 2 + 1, none⟩ (.slice Aj nj cj)).setCell ⟨G, j * 2, none⟩ (.int .i64 wi)).setCell ⟨G, j * 2 + 1, none⟩ (.slice Ai ni ci)).drew = w' := by
  have hiNi : (i : Int) < N := by omega
  have hjNi : (j : Int) < N := by omega
  have g1 := row_set hG (i * 2) (.int .i64 wj)
  have g2 := row_set g1 (i * 2 + 1) (.slice Aj nj cj)
  have g3 := row_set g2 (j * 2) (.int .i64 wi)
  have f0 := row_free hG (i * 2)
  have f1 := row_free g1 (i * 2 + 1)
  have f2 := row_free g2 (j * 2)
  have f3 := row_free g3 (j * 2 + 1)
  obtain ⟨x1, e1⟩ := row_has g1 (i * 2 + 1) (by simp; omega)
  obtain ⟨x2, e2⟩ := row_has g2 (j * 2) (by simp; omega)
  obtain ⟨x3, e3⟩ := row_has g3 (j * 2 + 1) (by simp; omega)
  clear hG g1 g2 g3
  go_enter Try.func63, Try.ntmps63
  go_wp2_with fail
  go_region_law fail
  all_goals
    go_end0
    exact ⟨rfl, rfl⟩

end Go.Proofs.Ytjifekdjkjnefaa
