/- The walk of cells.Close. -/
import Derived.Test.YtoiekhjmfoodiaaDoorYb
namespace Go.Proofs.YtoiekhjmfoodiaaDoor
open Go.RowKit

def padC : CC := ⟨0, ⟨#[]⟩, 3, 0, 0, 0, 0, 0⟩
set_option maxRecDepth 100000 in
set_option maxHeartbeats 4000000 in
theorem closeFn_any (g n c x P1 : Nat) (M : List CC) (hn : n = M.length) (hx : x < n) (w : World) (h : MC w g M) (h1 : w.heap[P1]? = some (.cells #[.int .i64 x] 3 (0, 0))) :
    Calls Tryd.prog 66 #[.slice (some ⟨g, 0, none⟩) n c, .pointer (some ⟨P1, 0, none⟩)] w fun e w' => e = .returned (.tuple #[]) ∧ MC w' g (M.set x padC) ∧ KG g w w' := by
  have c1 := cell_of_row _ _ 0 _ _ _ h1
  obtain ⟨a0, a1, a2, a3, a4, a5, a6, a7⟩ := h.at' x (by omega)
  have hgl := h.lt
  have hfr := h.free
  have hxn : (x : Int) < n := by omega
  have HE := Lib.hid (h.set x (by omega) padC)
  have HK := Lib.hid ((KG.refl g w).set8 (x * 8) padC)
  generalize Ac M x = y at *
  clear h h1 hn
  go_enter Tryd.func66, Tryd.ntmps66
  go_wp2
  go_end0
  exact ⟨rfl, HE.out, HK.out⟩
end Go.Proofs.YtoiekhjmfoodiaaDoor
