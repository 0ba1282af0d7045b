/- The walk of numbered. -/
import Derived.Test.YtmmkcfjncpcabaaDoorMm
import Derived.Test.YtmmkcfjncpcabaaDoorVp
namespace Go.Proofs.YtmmkcfjncpcabaaDoor
open Go.RowKit

/-- An event that has numbers, but for its text. -/
def NumPost (kind last pre : Int) (H I : List UInt8) (w : World) (e : Ending) (w' : World) : Prop :=
  ∃ A c, e = .returned (.agg #[.int .i64 kind, .int .i32 0, .int .u8 last, .int .u8 pre, .slice A (HZ H).length c, .string (bsB I), .string ⟨#[]⟩, .bool false]) ∧ RGt w' A (HZ H) ∧ Below w.heap.size w w'
theorem box8 {w : World} {g : Nat} {t : TypeId} {a0 a1 a2 a3 a4 a5 a6 a7 : Value} (h : w.heap[g]? = some (.cells #[a0, a1, a2, a3, a4, a5, a6, a7] t (0, 0))) (v0 v1 v2 v3 v4 v5 v6 v7 : Value) :
    ((((((((w.setCell ⟨g, 0, none⟩ v0).setCell ⟨g, 1, none⟩ v1).setCell ⟨g, 2, none⟩ v2).setCell ⟨g, 3, none⟩ v3).setCell ⟨g, 4, none⟩ v4).setCell ⟨g, 5, none⟩ v5).setCell ⟨g, 6, none⟩ v6).setCell ⟨g, 7, none⟩ v7).heap[g]? = some (.cells #[v0, v1, v2, v3, v4, v5, v6, v7] t (0, 0)) := by
  have h0 := heap_setCell_same w g 0 _ _ v0 h
  rw [show (#[a0, a1, a2, a3, a4, a5, a6, a7] : Array Value).setIfInBounds 0 v0 = #[v0, a1, a2, a3, a4, a5, a6, a7] from rfl] at h0
  have h1 := heap_setCell_same _ g 1 _ _ v1 h0
  rw [show (#[v0, a1, a2, a3, a4, a5, a6, a7] : Array Value).setIfInBounds 1 v1 = #[v0, v1, a2, a3, a4, a5, a6, a7] from rfl] at h1
  have h2 := heap_setCell_same _ g 2 _ _ v2 h1
  rw [show (#[v0, v1, a2, a3, a4, a5, a6, a7] : Array Value).setIfInBounds 2 v2 = #[v0, v1, v2, a3, a4, a5, a6, a7] from rfl] at h2
  have h3 := heap_setCell_same _ g 3 _ _ v3 h2
  rw [show (#[v0, v1, v2, a3, a4, a5, a6, a7] : Array Value).setIfInBounds 3 v3 = #[v0, v1, v2, v3, a4, a5, a6, a7] from rfl] at h3
  have h4 := heap_setCell_same _ g 4 _ _ v4 h3
  rw [show (#[v0, v1, v2, v3, a4, a5, a6, a7] : Array Value).setIfInBounds 4 v4 = #[v0, v1, v2, v3, v4, a5, a6, a7] from rfl] at h4
  have h5 := heap_setCell_same _ g 5 _ _ v5 h4
  rw [show (#[v0, v1, v2, v3, v4, a5, a6, a7] : Array Value).setIfInBounds 5 v5 = #[v0, v1, v2, v3, v4, v5, a6, a7] from rfl] at h5
  have h6 := heap_setCell_same _ g 6 _ _ v6 h5
  rw [show (#[v0, v1, v2, v3, v4, v5, a6, a7] : Array Value).setIfInBounds 6 v6 = #[v0, v1, v2, v3, v4, v5, v6, a7] from rfl] at h6
  have h7 := heap_setCell_same _ g 7 _ _ v7 h6
  rw [show (#[v0, v1, v2, v3, v4, v5, v6, a7] : Array Value).setIfInBounds 7 v7 = #[v0, v1, v2, v3, v4, v5, v6, v7] from rfl] at h7
  exact h7
theorem below8 {w W : World} {b g : Nat} (h : Below b w W) (hg : b ≤ g) (v0 v1 v2 v3 v4 v5 v6 v7 : Value) :
    Below b w ((((((((W.setCell ⟨g, 0, none⟩ v0).setCell ⟨g, 1, none⟩ v1).setCell ⟨g, 2, none⟩ v2).setCell ⟨g, 3, none⟩ v3).setCell ⟨g, 4, none⟩ v4).setCell ⟨g, 5, none⟩ v5).setCell ⟨g, 6, none⟩ v6).setCell ⟨g, 7, none⟩ v7) :=
  (((((((h.setCell (p := ⟨g, 0, none⟩) hg v0).setCell (p := ⟨g, 1, none⟩) hg v1).setCell (p := ⟨g, 2, none⟩) hg v2).setCell (p := ⟨g, 3, none⟩) hg v3).setCell (p := ⟨g, 4, none⟩) hg v4).setCell (p := ⟨g, 5, none⟩) hg v5).setCell (p := ⟨g, 6, none⟩) hg v6).setCell (p := ⟨g, 7, none⟩) hg v7
theorem nt8 {w : World} {g : Nat} {cs : Array Value} (hg : w.heap[g]? = some (.cells cs 41 (0, 0))) (v0 v1 v2 v3 v4 v5 v6 v7 : Value) :
    NT w ((((((((w.setCell ⟨g, 0, none⟩ v0).setCell ⟨g, 1, none⟩ v1).setCell ⟨g, 2, none⟩ v2).setCell ⟨g, 3, none⟩ v3).setCell ⟨g, 4, none⟩ v4).setCell ⟨g, 5, none⟩ v5).setCell ⟨g, 6, none⟩ v6).setCell ⟨g, 7, none⟩ v7) := fun b cur h => by
  have hne : b ≠ g := by
    rintro rfl
    rcases h with h | h <;> (rw [hg] at h; cases h)
  rw [heap_setCell_other _ ⟨g, 7, none⟩ b v7 hne, heap_setCell_other _ ⟨g, 6, none⟩ b v6 hne, heap_setCell_other _ ⟨g, 5, none⟩ b v5 hne, heap_setCell_other _ ⟨g, 4, none⟩ b v4 hne, heap_setCell_other _ ⟨g, 3, none⟩ b v3 hne, heap_setCell_other _ ⟨g, 2, none⟩ b v2 hne, heap_setCell_other _ ⟨g, 1, none⟩ b v1 hne, heap_setCell_other _ ⟨g, 0, none⟩ b v0 hne]
theorem drew_heap' (w : World) : w.drew.heap = w.heap := rfl
theorem NT.drew {w w' : World} (h : NT w w') : NT w w'.drew := fun b cur hb => by rw [drew_heap']; exact h b cur hb
theorem infoEvent_size : (Tryd.prog.info? 41).map (·.size) = some 8 := by kernel_rfl
set_option maxRecDepth 100000 in
set_option maxHeartbeats 2000000 in
theorem numbered_any (D : Nat) (a : PV) (kind last pre : Int) (H I : List UInt8) (ml : Int) (w : World) (h : PB w D a) (hpre : a.pre = .int .u8 pre) (hH : w.ownsRow (D + 1) 5 1 a.head H.length (Lib.byteCells H)) (hI : w.ownsRow (D + 1) 5 1 a.inter I.length (Lib.byteCells I)) (hhd : headL H = true) (hHs : H.length ≤ 1000) (hm : w.cell? ⟨2, 0, none⟩ = some (.int .i64 ml)) :
    Calls Tryd.prog 44 #[.pointer (some ⟨D, 0, none⟩), .int .i64 kind, .int .u8 last] w (NumPost kind last pre H I w) := by
  obtain ⟨A0, c0', hv0, _⟩ := own_form hH
  obtain ⟨A1, c1', hv1, _⟩ := own_form hI
  have hcvH : ∀ W, Below w.heap.size w W → (Go.convert 22 9 (.slice A0 H.length c0')).run Tryd.prog W = .ok (.string (bsB H)) W := fun W hW => conv_own (own_past (by rw [← hv0]; exact hH) hW) rfl
  have hcvI : ∀ W, Below w.heap.size w W → (Go.convert 22 9 (.slice A1 I.length c1')).run Tryd.prog W = .ok (.string (bsB I)) W := fun W hW => conv_own (own_past (by rw [← hv1]; exact hI) hW) rfl
  have hcv0 : ∀ o, (Go.convert 22 9 (.slice A0 H.length c0')).run Tryd.prog (w.alloc o) = .ok (.string (bsB H)) (w.alloc o) := fun o => hcvH _ ((Below.refl _ _).alloc (Nat.le_refl _) o)
  have HP : Hid (∀ W, Below w.heap.size w W → Calls Tryd.prog 57 #[.string (bsB H)] W (fun e w' => ∃ A c, e = .returned (.tuple #[.slice A (HZ H).length c, .bool true]) ∧ RGt w' A (HZ H) ∧ Below W.heap.size W w')) := Lib.hid fun W hW => by
    have hml := block_lt_of_cell hm
    refine (parse_tag (bsB H) W (by simp [bsB, ByteArray.size]; omega) ml ((hW.cell (p := ⟨2, 0, none⟩) hml).trans hm)).mono fun e w' hp => ?_
    have eL : (bsB H).data.toList = H := by simp [bsB]
    rw [eL] at hp
    rcases hp with ⟨h1, _⟩ | ⟨_, hp⟩
    · rw [hhd] at h1; cases h1
    · exact hp
  have c1 : w.cell? ⟨D, 1, none⟩ = some a.head := h.cell 1
  have c2 : w.cell? ⟨D, 2, none⟩ = some a.inter := h.cell 2
  have c00 : w.cell? ⟨D, 0, none⟩ = some a.pre := h.cell 0
  rw [hv0] at c1
  rw [hv1] at c2
  rw [hpre] at c00
  have hlt := lt_of_block h
  have HX : Hid (∀ o w2, Below (w.alloc o).heap.size (w.alloc o) w2 → w2.cell? ⟨D, 0, none⟩ = some (.int .u8 pre) ∧ w2.cell? ⟨D, 2, none⟩ = some (.slice A1 I.length c1') ∧ (Go.convert 22 9 (.slice A1 I.length c1')).run Tryd.prog w2 = .ok (.string (bsB I)) w2 ∧ (Go.convert 22 9 (.slice A1 I.length c1')).run Tryd.prog w2.drew = .ok (.string (bsB I)) w2.drew ∧ w2.heap[w.heap.size]? = some o) := Lib.hid fun o w2 hb => by
    have hb1 : Below w.heap.size w w2 := ((Below.refl _ _).alloc (Nat.le_refl _) o).trans (hb.mono (by simp))
    exact ⟨(hb1.cell (p := ⟨D, 0, none⟩) hlt).trans c00, (hb1.cell (p := ⟨D, 2, none⟩) hlt).trans c2, hcvI _ hb1, hcvI _ hb1.drew, (hb.block _ (by simp)).trans (heap_alloc_new w o)⟩
  unfold NumPost
  generalize HZ H = G at *
  generalize bsB H = SH at *
  generalize bsB I = SI at *
  generalize H.length = nH at *
  generalize I.length = nI at *
  clear h hpre hH hI hhd hHs hm hv0 hv1 hcvH hcvI
  go_enter Tryd.func44, Tryd.ntmps44
  go_wp2_with (go_at_call 57; (with_reducible refine (HP.out _ (by first | exact (Below.refl _ _).drew | exact (Below.refl _ _) | exact (((Below.refl _ _).alloc (Nat.le_refl _) _)) | exact (((Below.refl _ _).alloc (Nat.le_refl _) _)).drew)).mono ?_); rintro e w2 ⟨A2, c2', rfl, hr2, hb2⟩; have HR2 := Lib.hid hr2; have HB2 := Lib.hid hb2; clear hr2 hb2)
  obtain ⟨k1, k2, k3, k4, k5⟩ := HX.out _ _ HB2.out
  have b0 := cell_of_row w2 w.heap.size 0 _ _ _ k5
  have b1 := cell_of_row w2 w.heap.size 1 _ _ _ k5
  have b2 := cell_of_row w2 w.heap.size 2 _ _ _ k5
  have b3 := cell_of_row w2 w.heap.size 3 _ _ _ k5
  have b4 := cell_of_row w2 w.heap.size 4 _ _ _ k5
  have b5 := cell_of_row w2 w.heap.size 5 _ _ _ k5
  have b6 := cell_of_row w2 w.heap.size 6 _ _ _ k5
  have b7 := cell_of_row w2 w.heap.size 7 _ _ _ k5
  simp only [List.getElem?_toArray, List.getElem?_cons_succ, List.getElem?_cons_zero] at b0 b1 b2 b3 b4 b5 b6 b7
  obtain ⟨f0, f1, f2, f3, f4, f5, f6, f7⟩ : w2.frozen? ⟨w.heap.size, 0, none⟩ = false ∧ w2.frozen? ⟨w.heap.size, 1, none⟩ = false ∧ w2.frozen? ⟨w.heap.size, 2, none⟩ = false ∧ w2.frozen? ⟨w.heap.size, 3, none⟩ = false ∧ w2.frozen? ⟨w.heap.size, 4, none⟩ = false ∧ w2.frozen? ⟨w.heap.size, 5, none⟩ = false ∧ w2.frozen? ⟨w.heap.size, 6, none⟩ = false ∧ w2.frozen? ⟨w.heap.size, 7, none⟩ = false := by simp [World.frozen?, k5]
  have HS2 : Hid (w.heap.size < w2.heap.size) := Lib.hid (lt_of_block k5)
  have HB : Hid (∀ v0 v1 v2 v3 v4 v5 v6 v7, ((((((((w2.setCell ⟨w.heap.size, 0, none⟩ v0).setCell ⟨w.heap.size, 1, none⟩ v1).setCell ⟨w.heap.size, 2, none⟩ v2).setCell ⟨w.heap.size, 3, none⟩ v3).setCell ⟨w.heap.size, 4, none⟩ v4).setCell ⟨w.heap.size, 5, none⟩ v5).setCell ⟨w.heap.size, 6, none⟩ v6).setCell ⟨w.heap.size, 7, none⟩ v7).drew.heap[w.heap.size]? = some (.cells #[v0, v1, v2, v3, v4, v5, v6, v7] 41 (0, 0))) := Lib.hid fun v0 v1 v2 v3 v4 v5 v6 v7 => by rw [drew_heap']; exact box8 k5 v0 v1 v2 v3 v4 v5 v6 v7
  have HE : Hid (∀ v0 v1 v2 v3 v4 v5 v6 v7, RGt ((((((((w2.setCell ⟨w.heap.size, 0, none⟩ v0).setCell ⟨w.heap.size, 1, none⟩ v1).setCell ⟨w.heap.size, 2, none⟩ v2).setCell ⟨w.heap.size, 3, none⟩ v3).setCell ⟨w.heap.size, 4, none⟩ v4).setCell ⟨w.heap.size, 5, none⟩ v5).setCell ⟨w.heap.size, 6, none⟩ v6).setCell ⟨w.heap.size, 7, none⟩ v7).drew A2 G ∧ Below w.heap.size w ((((((((w2.setCell ⟨w.heap.size, 0, none⟩ v0).setCell ⟨w.heap.size, 1, none⟩ v1).setCell ⟨w.heap.size, 2, none⟩ v2).setCell ⟨w.heap.size, 3, none⟩ v3).setCell ⟨w.heap.size, 4, none⟩ v4).setCell ⟨w.heap.size, 5, none⟩ v5).setCell ⟨w.heap.size, 6, none⟩ v6).setCell ⟨w.heap.size, 7, none⟩ v7).drew) := Lib.hid fun v0 v1 v2 v3 v4 v5 v6 v7 => ⟨HR2.out.kept (nt8 k5 v0 v1 v2 v3 v4 v5 v6 v7).drew, (below8 (((Below.refl _ _).alloc (Nat.le_refl _) _).trans (HB2.out.mono (by simp))) (Nat.le_refl _) v0 v1 v2 v3 v4 v5 v6 v7).drew⟩
  go_region_law fail
  all_goals
    go_wp2
    refine bodyPost_ret (results_cell_row rfl _ _ w.heap.size _ _ _ _ rfl (HB.out _ _ _ _ _ _ _ _) Tryd.underlying41 rfl infoEvent_size) rfl ?_
    exact ⟨A2, c2', rfl, HE.out _ _ _ _ _ _ _ _⟩

end Go.Proofs.YtmmkcfjncpcabaaDoor
