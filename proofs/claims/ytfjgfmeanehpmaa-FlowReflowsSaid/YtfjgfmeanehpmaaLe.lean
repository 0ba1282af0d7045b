/- The walk of flow.line's to. -/
import Derived.Test.YtfjgfmeanehpmaaLd
namespace Go.Proofs.Ytfjgfmeanehpmaa
open Go.RowKit

theorem alloc4 (w : World) (o1 o2 o3 o4 : Obj) : ((((w.alloc o1).alloc o2).alloc o3).alloc o4).heap[w.heap.size]? = some o1 ∧ ((((w.alloc o1).alloc o2).alloc o3).alloc o4).heap[w.heap.size + 1]? = some o2 ∧ ((((w.alloc o1).alloc o2).alloc o3).alloc o4).heap[w.heap.size + 2]? = some o3 ∧ ((((w.alloc o1).alloc o2).alloc o3).alloc o4).heap[w.heap.size + 3]? = some o4 ∧ ((((w.alloc o1).alloc o2).alloc o3).alloc o4).heap.size = w.heap.size + 4 ∧ Below w.heap.size w ((((w.alloc o1).alloc o2).alloc o3).alloc o4) := by
  obtain ⟨h1, h2, h3, h4, h5⟩ := alloc3 w o1 o2 o3
  have h6 := heap_alloc_new (((w.alloc o1).alloc o2).alloc o3) o4
  rw [h4] at h6
  have b := belA (Below.refl (((w.alloc o1).alloc o2).alloc o3).heap.size (((w.alloc o1).alloc o2).alloc o3)) o4
  exact ⟨(b.block _ (by omega)).trans h1, (b.block _ (by omega)).trans h2, (b.block _ (by omega)).trans h3, h6, by simp, belA h5 _⟩
theorem belW {a w : World} {p : Addr} {v : Value} (h : Below a.heap.size a w) (hg : a.heap.size ≤ p.block) : Below a.heap.size a (w.setCell p v) := h.setCell hg _
theorem lt_alloc (w : World) (o : Obj) : w.heap.size < (w.alloc o).heap.size := by simp
theorem cell2_of {w : World} {b : Nat} {v0 v1 : Value} {t : TypeId} (h : w.heap[b]? = some (.cells #[v0, v1] t (0, 0))) : w.cell? ⟨b, 0, none⟩ = some v0 ∧ w.cell? ⟨b, 1, none⟩ = some v1 ∧ (∀ k, w.frozen? ⟨b, k, none⟩ = false) ∧ b < w.heap.size :=
  ⟨cell_of_row _ _ 0 _ _ _ h, cell_of_row _ _ 1 _ _ _ h, free_of_row h, (Array.getElem?_eq_some_iff.1 h).1⟩
/-- A cell of a box of two is written. -/
theorem box2_set0 {w : World} {b : Nat} {v0 v1 u : Value} {t : TypeId} (h : w.heap[b]? = some (.cells #[v0, v1] t (0, 0))) : (w.setCell ⟨b, 0, none⟩ u).heap[b]? = some (.cells #[u, v1] t (0, 0)) := by
  rw [heap_setCell_same w b 0 _ _ u h]
  rfl
set_option maxRecDepth 100000 in
set_option maxHeartbeats 8000000 in
theorem to_any (fx fy qx qy nx ny : Nat) (gx gy : List Rw) (row col : Int) (hnx : nx = gx.length) (hny : ny = gy.length) (hlx : nx ≤ 10000000) (hly : ny ≤ 10000000) (hfx : (flat gx).length ≤ 1000000000) (hfy : (flat gy).length ≤ 1000000000) (hfy2 : fy ≤ 1000000000) (hfx2 : fx ≤ 1000000000) (hr1 : 0 ≤ row) (hr2 : row ≤ 1000000000) (w : World) (hx : RN w qx gx) (hy : RN w qy gy) :
    Calls Try.prog 54 #[.agg #[.int .i64 (fx : Int), .slice (some ⟨qx, 0, none⟩) (nx + 1) (nx + 1)], .agg #[.int .i64 (fy : Int), .slice (some ⟨qy, 0, none⟩) (ny + 1) (ny + 1)], .agg #[.int .i64 row, .int .i64 col]] w fun e w' => e = .returned (.agg #[.int .i64 ((fy + (placeR gy (offZ gx (row - fx) col)).1 : Nat) : Int), .int .i64 ((placeR gy (offZ gx (row - fx) col)).2 : Nat)]) ∧ Below w.heap.size w w' := by
  have HO : Hid (∀ W, Below w.heap.size w W → Calls Try.prog 38 #[.slice (some ⟨qx, 0, none⟩) (nx + 1) (nx + 1), .agg #[.int .i64 (row - fx), .int .i64 col]] W fun e w' => e = .returned (.int .i64 (offZ gx (row - fx) col : Nat)) ∧ Below W.heap.size W w') := Lib.hid fun W hW => offset_any qx nx (nx + 1) gx (row - fx) col hnx (by omega) hfx W (hx.past hW)
  have HP : Hid (∀ W, Below w.heap.size w W → Calls Try.prog 40 #[.slice (some ⟨qy, 0, none⟩) (ny + 1) (ny + 1), .int .i64 (offZ gx (row - fx) col : Nat)] W fun e w' => e = .returned (.agg #[.int .i64 ((placeR gy (offZ gx (row - fx) col)).1 : Nat), .int .i64 ((placeR gy (offZ gx (row - fx) col)).2 : Nat)]) ∧ Below W.heap.size W w') := Lib.hid fun W hW => by
    have h := placeF_any qy ny (ny + 1) gy ((offZ gx (row - fx) col : Nat) : Int) hny (by omega) hfy W (hy.past hW)
    have e : placeZ gy ((offZ gx (row - fx) col : Nat) : Int) = placeR gy (offZ gx (row - fx) col) := by unfold placeZ; rw [Int.toNat_natCast]
    rwa [e] at h
  have hlt : (placeR gy (offZ gx (row - fx) col)).1 ≤ 10000000 := by
    rcases gy with _ | ⟨r, t⟩
    · exact Nat.zero_le _
    · have := placeR_lt (r :: t) (offZ gx (row - fx) col) (by simp)
      omega
  have HA4 := Lib.hid (alloc4 w (.cells #[.int .i64 (fx : Int), .slice (some ⟨qx, 0, none⟩) (nx + 1) (nx + 1)] 81) (.cells #[.int .i64 (fy : Int), .slice (some ⟨qy, 0, none⟩) (ny + 1) (ny + 1)] 81) (.cells #[.int .i64 row, .int .i64 col] 39) (.cells #[.int .i64 0, .int .i64 0] 39))
  clear hx hy hfx hfy hnx hny
  generalize placeR gy (offZ gx (row - fx) col) = pl at *
  obtain ⟨p1, p2⟩ := pl
  have hlt : p1 ≤ 10000000 := hlt
  generalize offZ gx (row - fx) col = z at *
  obtain ⟨d, hd⟩ : ∃ d : Int, row - fx = d := ⟨_, rfl⟩
  rw [hd] at HO
  have hwd : IntKind.i64.wrap (row - fx) = d := by rw [IntKind.wrap_i64]; omega
  go_enter Try.func54, Try.ntmps54
  go_upto_region 1 with fail
  generalize (((w.alloc (.cells #[.int .i64 (fx : Int), .slice (some ⟨qx, 0, none⟩) (nx + 1) (nx + 1)] 81)).alloc (.cells #[.int .i64 (fy : Int), .slice (some ⟨qy, 0, none⟩) (ny + 1) (ny + 1)] 81)).alloc (.cells #[.int .i64 row, .int .i64 col] 39)).alloc (.cells #[.int .i64 0, .int .i64 0] 39) = W0 at *
  obtain ⟨x1, x2, x3, x4, x5, x6⟩ := HA4.out
  have x3 : W0.heap[w.heap.size + 1 + 1]? = some (.cells #[.int .i64 row, .int .i64 col] 39 (0, 0)) := x3
  have x4 : W0.heap[w.heap.size + 1 + 1 + 1]? = some (.cells #[.int .i64 0, .int .i64 0] 39 (0, 0)) := x4
  clear HA4 x5
  generalize hY : w.heap.size + 1 = Y at *
  generalize hT : Y + 1 = T at *
  generalize hR : T + 1 = R at *
  have o1 : w.heap.size < Y := by omega
  have o2 : Y < T := by omega
  have o3 : T < R := by omega
  clear hY hT hR
  obtain ⟨a0, a1, af, al⟩ := cell2_of x1
  obtain ⟨c0, c1, cf, cl⟩ := cell2_of x3
  have tf := cf 0
  have HW1 : Hid ((W0.setCell ⟨T, 0, none⟩ (.int .i64 d)).heap[w.heap.size]? = some (.cells #[.int .i64 (fx : Int), .slice (some ⟨qx, 0, none⟩) (nx + 1) (nx + 1)] 81 (0, 0)) ∧ (W0.setCell ⟨T, 0, none⟩ (.int .i64 d)).heap[Y]? = some (.cells #[.int .i64 (fy : Int), .slice (some ⟨qy, 0, none⟩) (ny + 1) (ny + 1)] 81 (0, 0)) ∧ (W0.setCell ⟨T, 0, none⟩ (.int .i64 d)).heap[T]? = some (.cells #[.int .i64 d, .int .i64 col] 39 (0, 0)) ∧ (W0.setCell ⟨T, 0, none⟩ (.int .i64 d)).heap[R]? = some (.cells #[.int .i64 0, .int .i64 0] 39 (0, 0)) ∧ Below w.heap.size w (W0.setCell ⟨T, 0, none⟩ (.int .i64 d))) := Lib.hid
    ⟨(heap_setCell_other W0 ⟨T, 0, none⟩ _ _ (by show w.heap.size ≠ T; omega)).trans x1, (heap_setCell_other W0 ⟨T, 0, none⟩ _ _ (by show Y ≠ T; omega)).trans x2, box2_set0 x3, (heap_setCell_other W0 ⟨T, 0, none⟩ _ _ (by show R ≠ T; omega)).trans x4, x6.setCell (p := ⟨T, 0, none⟩) (by show w.heap.size ≤ T; omega) _⟩
  clear x1 x2 x3 x4 x6
  go_wp2_with fail
  clear a0 a1 af al c0 c1 cf cl tf hd hwd
  generalize W0.setCell ⟨T, 0, none⟩ (.int .i64 d) = W1 at *
  obtain ⟨x1, x2, x3, x4, x6⟩ := HW1.out
  obtain ⟨a0, a1, af, al⟩ := cell2_of x1
  obtain ⟨b0, b1, bf, bl⟩ := cell2_of x2
  obtain ⟨c0, c1, cf, cl⟩ := cell2_of x3
  obtain ⟨d0, d1, df, dl⟩ := cell2_of x4
  have HBW := Lib.hid x6
  have HK8 : Hid (∀ w8, Below W1.heap.size W1 w8 → w8.cell? ⟨Y, 1, none⟩ = some (.slice (some ⟨qy, 0, none⟩) (ny + 1) (ny + 1)) ∧ Y < w8.heap.size ∧ R < w8.heap.size ∧ Below w.heap.size w w8 ∧ Below W1.heap.size W1 w8) := Lib.hid fun w8 h8 => ⟨(h8.cell (p := ⟨Y, 1, none⟩) bl).trans b1, Nat.lt_of_lt_of_le bl h8.size, Nat.lt_of_lt_of_le dl h8.size, bel0 x6 h8, h8⟩
  have HK9 : Hid (∀ w9, Below W1.heap.size W1 w9 → w9.cell? ⟨Y, 0, none⟩ = some (.int .i64 (fy : Int)) ∧ w9.cell? ⟨R, 0, none⟩ = some (.int .i64 0) ∧ w9.cell? ⟨R, 1, none⟩ = some (.int .i64 0) ∧ w9.frozen? ⟨R, 0, none⟩ = false ∧ w9.frozen? ⟨R, 1, none⟩ = false ∧ Y < w9.heap.size ∧ R < w9.heap.size ∧ Below w.heap.size w w9) := Lib.hid fun w9 h9 =>
    ⟨(h9.cell (p := ⟨Y, 0, none⟩) bl).trans b0, (h9.cell (p := ⟨R, 0, none⟩) dl).trans d0, (h9.cell (p := ⟨R, 1, none⟩) dl).trans d1, (h9.frozen (p := ⟨R, 0, none⟩) dl).trans (df 0), (h9.frozen (p := ⟨R, 1, none⟩) dl).trans (df 1), Nat.lt_of_lt_of_le bl h9.size, Nat.lt_of_lt_of_le dl h9.size, bel0 x6 h9⟩
  have hwp : IntKind.i64.wrap ((p1 : Int) + (fy : Int)) = (p1 : Int) + (fy : Int) := by rw [IntKind.wrap_i64]; omega
  have HPE : Hid (((p1 : Int) + (fy : Int)) = ((fy + p1 : Nat) : Int)) := Lib.hid (by omega)
  clear x1 x2 x3 x4 x6 HW1 a0 af b0 bf cf d0 d1 df
  go_region_law (first
    | (go_simp; go_at_call 38; (first | (with_reducible refine (HO.out _ HBW.out.drew).mono ?_) | (with_reducible refine (HO.out _ (belA HBW.out _).drew).mono ?_)); rintro e8 w8 ⟨rfl, hb8⟩; (try (have hp8 : w8.heap[W1.heap.size]? = some (.cells #[.int .i64 0, .int .i64 0] 39 (0, 0)) := ((belD hb8).block _ (lt_alloc W1 _)).trans (heap_alloc_new W1 _))); obtain ⟨z0, zl, zr, hz8, hz9⟩ := HK8.out w8 (by first | exact belD hb8 | exact bel1 (Below.refl _ _) (belD hb8)); have HB8 := Lib.hid hz8; have HB81 := Lib.hid hz9; clear hb8 hz8 hz9)
    | (go_simp; go_at_call 40; (first | (with_reducible refine (HP.out _ HB8.out).mono ?_) | (with_reducible refine (HP.out _ (belA HB8.out _)).mono ?_)); rintro e9 w9 ⟨rfl, hb9⟩; (first | (have hp9 : w9.heap[W1.heap.size]? = some (.cells #[.int .i64 0, .int .i64 0] 39 (0, 0)) := (hb9.block _ (Array.getElem?_eq_some_iff.1 hp8).1).trans hp8; obtain ⟨e0, e1, ef, el⟩ := cell2_of hp9; have ef0 := ef 0; have ef1 := ef 1; clear ef hp9) | (have hp9 : w9.heap[w8.heap.size]? = some (.cells #[.int .i64 0, .int .i64 0] 39 (0, 0)) := (hb9.block _ (lt_alloc w8 _)).trans (heap_alloc_new w8 _); obtain ⟨e0, e1, ef, el⟩ := cell2_of hp9; have ef0 := ef 0; have ef1 := ef 1; clear ef hp9) | skip); obtain ⟨k1, k2, k3, k4, k5, k6, k7, k8⟩ := HK9.out w9 (by first | exact bel0 HB81.out hb9 | exact bel0 (belA HB81.out _) hb9); have HB9 := Lib.hid k8; clear hb9 k8))
  all_goals
    (simp only [Exit.then]; first | apply_assumption | skip)
  all_goals
    go_wp2_with fail
  all_goals
    have hgR : w.heap.size ≤ R := by omega
    have hgW : w.heap.size ≤ W1.heap.size := Nat.le_of_lt al
    have hg8 : w.heap.size ≤ w8.heap.size := by omega
    refine bodyPost_ret (v := .agg #[.int .i64 ((p1 : Int) + (fy : Int)), .int .i64 (p2 : Int)]) ?_ rfl ⟨(by rw [HPE.out]), ?_⟩
    · clear HB8 HB81 HPE
      first
      | (have ca : ∀ (V : World) (o : Obj) (k : Nat), R < V.heap.size → (V.alloc o).cell? ⟨R, k, none⟩ = V.cell? ⟨R, k, none⟩ := fun V o k h => (belA (Below.refl V.heap.size V) o).cell (p := ⟨R, k, none⟩) h
         simp [results, Try.results54, go_sem, k2, k3, k7, ca]
         done)
      | (have n1 : R ≠ w8.heap.size := by omega
         simp [results, Try.results54, go_sem, k2, k3, k4, k5, n1]
         done)
      | (have n1 : R ≠ W1.heap.size := by omega
         simp [results, Try.results54, go_sem, k2, k3, k4, k5, n1]
         done)
    · clear HB8 HB81 HPE
      repeat (first | (with_reducible exact HB9.out) | (with_reducible refine belA ?_ _) | (with_reducible refine belW ?_ (by assumption)))
end Go.Proofs.Ytfjgfmeanehpmaa
