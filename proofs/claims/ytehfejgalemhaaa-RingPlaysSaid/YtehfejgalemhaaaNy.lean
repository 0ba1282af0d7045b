/- The walk of the reference's Pop. -/
import Derived.Test.YtehfejgalemhaaaNx
import Derived.Maps.AppendAt
namespace Go.Proofs.Ytehfejgalemhaaa
open Go.RowKit

theorem heap3 (w : World) (o1 o2 o3 : Obj) : (((w.alloc o1).alloc o2).alloc o3).heap[w.heap.size]? = some o1 ∧ (((w.alloc o1).alloc o2).alloc o3).heap[w.heap.size + 1]? = some o2 ∧ (((w.alloc o1).alloc o2).alloc o3).heap[w.heap.size + 1 + 1]? = some o3 := by
  have h1 := heap_alloc_new w o1
  have h2 := heap_alloc_new (w.alloc o1) o2
  have h3 := heap_alloc_new ((w.alloc o1).alloc o2) o3
  simp only [World.size_alloc] at h2 h3
  exact ⟨(heap_alloc_old _ o3 (by simp; omega)).trans ((heap_alloc_old _ o2 (by simp)).trans h1), (heap_alloc_old _ o3 (by simp)).trans h2, h3⟩
theorem own_empty3 (w : World) (o1 o2 : Obj) : (((w.alloc o1).alloc o2).alloc (.cells #[] 43)).ownsRow w.heap.size 43 2 (.slice (some ⟨w.heap.size + 1 + 1, 0, none⟩) 0 0) 0 [] := by
  have h := World.ownsRow_made (e := 43) (size := 2) (base := w.heap.size) ((w.alloc o1).alloc o2) #[] 0 (by simp only [World.size_alloc]; omega) (by unfold maxLen; omega) rfl
  simpa using h
/-- What a row appended to none leaves. -/
theorem fresh3 {w w5 : World} {o1 o2 o3 : Obj} (hg : (((w.alloc o1).alloc o2).alloc o3).grownBy w5 (some (w.heap.size + 1 + 1))) : Below w.heap.size w w5 ∧ w5.heap[w.heap.size]? = some o1 ∧ w5.heap[w.heap.size + 1]? = some o2 := by
  obtain ⟨h1, h2, _⟩ := heap3 w o1 o2 o3
  exact ⟨(belA (belA (belA (Below.refl w.heap.size w) o1) o2) o3).grown hg (by simp only [World.size_alloc]; omega) (fun k e => by cases e; omega), (hg.block _ (by simp only [World.size_alloc]; omega) (by simp <;> omega)).trans h1, (hg.block _ (by simp only [World.size_alloc]; omega) (by simp <;> omega)).trans h2⟩
/-- The reference's rows are laid anew, and the answer's box is written. -/
theorem RF.answered {P : Nat → Prop} {w w5 : World} {D : Nat} {v : Value} {room : Nat} {gone : Int} {L0 : List (Int × Bool)} {xs0 : List Value} (h : RF P w D v room gone L0 xs0) (hb : Below w.heap.size w w5) {p q : Value} (hN : w5.heap[w.heap.size]? = some (.cells #[p, q] 43 (0, 0))) {v' a b : Value} {r : Int × Bool} {L : List (Int × Bool)} {xs : List Value} (ho : OR w5 v' L.length xs) (hov : ∀ g, v'.ownBlock = some g → w.heap.size < g) (hs : RS P w5 xs L) (hr : RV P w5 a b r) :
    (w5.cell? ⟨D, 1, none⟩ = some v ∧ ∀ k, w5.frozen? ⟨D, k, none⟩ = false) ∧
    (RF P (((w5.setCell ⟨D, 1, none⟩ v').setCell ⟨w.heap.size, 0, none⟩ a).setCell ⟨w.heap.size, 1, none⟩ b) D v' room gone L xs ∧ RV P (((w5.setCell ⟨D, 1, none⟩ v').setCell ⟨w.heap.size, 0, none⟩ a).setCell ⟨w.heap.size, 1, none⟩ b) a b r ∧ KB (fun i => i = D) w (((w5.setCell ⟨D, 1, none⟩ v').setCell ⟨w.heap.size, 0, none⟩ a).setCell ⟨w.heap.size, 1, none⟩ b)) ∧
    (((w5.setCell ⟨D, 1, none⟩ v').setCell ⟨w.heap.size, 0, none⟩ a).setCell ⟨w.heap.size, 1, none⟩ b).cell? ⟨w.heap.size, 0, none⟩ = some a ∧ (((w5.setCell ⟨D, 1, none⟩ v').setCell ⟨w.heap.size, 0, none⟩ a).setCell ⟨w.heap.size, 1, none⟩ b).cell? ⟨w.heap.size, 1, none⟩ = some b := by
  have h5 := h.past hb
  have hlt := h.lt
  obtain ⟨q1, q2⟩ := h5.relaid ho hs
  have hN1 : (w5.setCell ⟨D, 1, none⟩ v').heap[w.heap.size]? = some (.cells #[p, q] 43 (0, 0)) := (q2.block _ (Array.getElem?_eq_some_iff.1 hN).1 (fun e => by omega)).trans hN
  have hN2 := heap_setCell_same _ w.heap.size 1 _ _ b (heap_setCell_same _ w.heap.size 0 _ _ a hN1)
  have kN : KB (fun i => i = w.heap.size) (w5.setCell ⟨D, 1, none⟩ v') (((w5.setCell ⟨D, 1, none⟩ v').setCell ⟨w.heap.size, 0, none⟩ a).setCell ⟨w.heap.size, 1, none⟩ b) := (KB.set (S := fun i => i = w.heap.size) 0 _ rfl).trans (KB.set (S := fun i => i = w.heap.size) 1 _ rfl) fun _ _ e => e
  have hnc : NC (fun i => i = w.heap.size) P (w5.setCell ⟨D, 1, none⟩ v') := fun i cur _ hS _ hc => by
    subst hS
    rw [hN1] at hc
    injection hc with hc
    injection hc with _ e _
    exact absurd e (by decide)
  refine ⟨⟨h5.cells.1.2.1, h5.cells.2⟩, ⟨q1.kept kN (by omega) (fun g e e2 => by have := hov g e; omega) hnc, (hr.kept q2 fun i cur hi hS hp => h5.nc P i cur hi (.inl hS) hp).kept kN hnc, ((KB.of_below hb).trans q2 fun _ _ e => e).trans kN fun i hi e => by omega⟩, cell_of_row _ _ 0 _ _ _ hN2, cell_of_row _ _ 1 _ _ _ hN2⟩

set_option maxRecDepth 100000 in
set_option maxHeartbeats 2000000 in
theorem rpop_empty {P : Nat → Prop} (w : World) (D : Nat) (v : Value) (room : Nat) (gone : Int) (xs : List Value) (h : RF P w D v room gone [] xs) :
    Calls Try.prog 25 #[.pointer (some ⟨D, 0, none⟩)] w fun e w' => e = .returned (.tuple #[.agg #[.slice none 0 0, .bool false], .bool false]) ∧ Below w.heap.size w w' := by
  obtain ⟨⟨d0, d1, d2⟩, df⟩ := h.cells
  have hlt := h.lt
  obtain ⟨A, c, rfl⟩ := h.rows.shape
  clear h
  go_enter Try.func25, Try.ntmps25
  go_wp2
  refine bodyPost_ret (v := .tuple #[.agg #[.slice none 0 0, .bool false], .bool false]) (by simp [results, Try.results25, go_sem]) rfl ⟨rfl, ?_⟩
  exact (Below.refl _ _).alloc (Nat.le_refl _) _

set_option maxRecDepth 100000 in
set_option maxHeartbeats 4000000 in
theorem rpop_some {P : Nat → Prop} (w : World) (D : Nat) (v : Value) (room : Nat) (gone : Int) (L : List (Int × Bool)) (r : Int × Bool) (xs : List Value) (h : RF P w D v room gone (L ++ [r]) xs) (hl : L.length ≤ 1000000) :
    Calls Try.prog 25 #[.pointer (some ⟨D, 0, none⟩)] w fun e w' => ∃ A c xs' o1 o2, e = .returned (.tuple #[.agg #[o1, o2], .bool true]) ∧ RF P w' D (.slice A L.length c) room gone L xs' ∧ RV P w' o1 o2 r ∧ KB (fun i => i = D) w w' ∧ ∀ g, (Value.slice A L.length c).ownBlock = some g → w.heap.size ≤ g := by
  have hlen : (L ++ [r]).length = L.length + 1 := by simp
  obtain ⟨g, off, c, rfl, hc⟩ := OR.form (n := L.length) (by have := h.rows; rwa [hlen] at this)
  have hxl : xs.length = (L.length + 1) * 2 := by have := h.rows.1; rwa [hlen] at this
  obtain ⟨ys, a, b, rfl⟩ : ∃ ys a b, xs = ys ++ [a, b] := by
    obtain ⟨a, b, hd⟩ := two_of' (l := xs.drop (L.length * 2)) (by simp; omega)
    exact ⟨xs.take (L.length * 2), a, b, by rw [← hd, List.take_append_drop]⟩
  have hrows : OR w (.slice (some ⟨g, off, none⟩) (L.length + 1) c) (L.length + 1) (ys ++ [a, b]) := by have := h.rows; rwa [hlen] at this
  obtain ⟨hinit, e0, e1⟩ := hrows.init
  have heach := RS.init (by simp at hxl; omega) h.each
  obtain ⟨b0, c0, rfl, rfl, _⟩ := heach.2.cells
  have hlt := h.lt
  have hlg : g < w.heap.size := (h.rows.lt g rfl).1
  have hgD : g ≠ D := h.ne g rfl
  obtain ⟨i0, hi0, hz0, hz1, hz2⟩ := info_row
  have HNEW : Hid (∀ W, Below w.heap.size w W → ∀ j u, ys[j]? = some u → W.cell? ((⟨g, off, none⟩ : Addr).add j) = some u) := Lib.hid fun W hW j u hu => by
    rw [Addr.add_mid]
    exact (hW.cell (p := ⟨g, off + j, none⟩) hlg).trans (hinit.cell hu).1
  have HONE := Lib.hid (heach.1.ones)
  have HYL := Lib.hid hinit.1
  have HOWN := Lib.hid (own_empty3 w (.cells #[.slice none 0 0, .bool false] 43) (.cells #[.slice (some ⟨b0, 0, none⟩) 1 c0, .bool r.2] 43))
  have HFIN : Hid (∀ (w5 : World) (v5 : Value), (((w.alloc (.cells #[.slice none 0 0, .bool false] 43)).alloc (.cells #[.slice (some ⟨b0, 0, none⟩) 1 c0, .bool r.2] 43)).alloc (.cells #[] 43)).grownBy w5 (some (w.heap.size + 1 + 1)) → w5.ownsRow w.heap.size 43 2 v5 (0 + L.length) ([] ++ ys) → (v5.ownBlock = some (w.heap.size + 1 + 1) ∨ v5.ownBlock = some (((w.alloc (.cells #[.slice none 0 0, .bool false] 43)).alloc (.cells #[.slice (some ⟨b0, 0, none⟩) 1 c0, .bool r.2] 43)).alloc (.cells #[] 43)).heap.size) →
      (w5.cell? ⟨w.heap.size + 1, 0, none⟩ = some (.slice (some ⟨b0, 0, none⟩) 1 c0) ∧ w5.cell? ⟨w.heap.size + 1, 1, none⟩ = some (.bool r.2)) ∧ (w5.cell? ⟨w.heap.size, 0, none⟩ = some (.slice none 0 0) ∧ w5.cell? ⟨w.heap.size, 1, none⟩ = some (.bool false) ∧ ∀ k, w5.frozen? ⟨w.heap.size, k, none⟩ = false) ∧ (w5.cell? ⟨D, 1, none⟩ = some (.slice (some ⟨g, off, none⟩) (L.length + 1) c) ∧ ∀ k, w5.frozen? ⟨D, k, none⟩ = false) ∧ (∃ A5 c5, v5 = .slice A5 L.length c5 ∧
      Hid (let wf := ((w5.setCell ⟨D, 1, none⟩ (.slice A5 L.length c5)).setCell ⟨w.heap.size, 0, none⟩ (.slice (some ⟨b0, 0, none⟩) 1 c0)).setCell ⟨w.heap.size, 1, none⟩ (.bool r.2)
      (RF P wf D (.slice A5 L.length c5) room gone L ys ∧ RV P wf (.slice (some ⟨b0, 0, none⟩) 1 c0) (.bool r.2) r ∧ KB (fun i => i = D) w wf) ∧ (wf.cell? ⟨w.heap.size, 0, none⟩ = some (.slice (some ⟨b0, 0, none⟩) 1 c0) ∧ wf.cell? ⟨w.heap.size, 1, none⟩ = some (.bool r.2)) ∧ ∀ g, (Value.slice A5 L.length c5).ownBlock = some g → w.heap.size ≤ g))) := Lib.hid fun w5 v5 hg ho hor => by
    obtain ⟨hb5, hN, hN1⟩ := fresh3 hg
    simp only [Nat.zero_add, List.nil_append] at ho
    have hov : ∀ g, v5.ownBlock = some g → w.heap.size < g := fun g e => by
      rcases hor with e2 | e2
      · rw [e2] at e; injection e with e; omega
      · rw [e2] at e; injection e with e; simp only [World.size_alloc] at e; omega
    have h' : RF P w D (.slice (some ⟨g, off, none⟩) (L.length + 1) c) room gone (L ++ [r]) (ys ++ [.slice (some ⟨b0, 0, none⟩) 1 c0, .bool r.2]) := h
    obtain ⟨q1, q2, q3, q4⟩ := h'.answered hb5 hN (OR.of_own ho) hov (heach.1.map fun _ _ _ q => q.past hb5) (heach.2.past hb5)
    obtain ⟨A5, c5, rfl⟩ := (OR.of_own ho).shape
    exact ⟨⟨cell_of_row _ _ 0 _ _ _ hN1, cell_of_row _ _ 1 _ _ _ hN1⟩, ⟨cell_of_row _ _ 0 _ _ _ hN, cell_of_row _ _ 1 _ _ _ hN, fun k => by simp [World.frozen?, hN]⟩, q1, A5, c5, rfl, Lib.hid ⟨q2, ⟨q3, q4⟩, fun g e => Nat.le_of_lt (hov g e)⟩⟩
  obtain ⟨⟨d0, d1, d2⟩, df⟩ := h.cells
  have ef : ∀ k, w.frozen? ⟨g, k, none⟩ = false := (hrows.cell (j := 0) (u := (ys ++ [.slice (some ⟨b0, 0, none⟩) 1 c0, .bool r.2])[0]?.getD undef) (by cases ys <;> rfl)).2
  have hw1 : IntKind.i64.wrap ((L.length : Int) + 1 - 1) = L.length := by rw [show (L.length : Int) + 1 - 1 = L.length from by omega]; exact IntWalk.i64_in _ (by omega)
  have hi0' : ¬ ((L.length : Int) + 1 = 0) := by omega
  have hi1 : (0 : Int) ≤ L.length := by omega
  have hi2 : (L.length : Int) < (L.length : Int) + 1 := by omega
  have hi4 : (L.length : Int) ≤ c := by omega
  have hD1 : D < w.heap.size + 1 := by omega
  have hD2 : D < w.heap.size + 1 + 1 := by omega
  have hg1 : g < w.heap.size + 1 := by omega
  have hg2 : g < w.heap.size + 1 + 1 := by omega
  have hb1 : 0 + L.length ≤ maxLen := by unfold maxLen; omega
  have hb2 : (0 + L.length) * 32 ≤ 140737488355328 := by omega
  have hb3 : w.heap.size ≤ (((w.alloc (.cells #[.slice none 0 0, .bool false] 43)).alloc (.cells #[.slice (some ⟨b0, 0, none⟩) 1 c0, .bool r.2] 43)).alloc (.cells #[] 43)).heap.size := by simp only [World.size_alloc]; omega
  clear h hrows heach hxl hlen hinit
  generalize hq : r.2 = q at *
  clear hq
  generalize L.length = n at *
  go_enter Try.func25, Try.ntmps25
  go_wp2_with (at_builtin; go_must (refine wpList_append_own_at _ rfl _ _ 29 rfl w.heap.size 43 i0 _ 2 32 Try.underlying29 hi0 hz0 hz1 hz2 rfl (by decide) (.slice (some ⟨w.heap.size + 1 + 1, 0, none⟩) 0 0) 0 [] rfl HOWN.out ⟨g, off, none⟩ n c ys rfl HYL.out (HNEW.out _ (belA (belA (belA (Below.refl _ _) _) _) _)) HONE.out hb1 hb2 hb3 ?_; intro v5 w5 hown5 hgrow5 _ hat5; obtain ⟨⟨m0, m1⟩, ⟨k0, k1, kf⟩, ⟨dd, ddf⟩, A5, c5, rfl, HZ⟩ := HFIN.out _ _ hgrow5 hown5 hat5; clear hown5 hgrow5 hat5))
  obtain ⟨hz, ⟨z0, z1⟩, hfr⟩ := HZ.out
  refine bodyPost_ret (v := .tuple #[.agg #[.slice (some ⟨b0, 0, none⟩) 1 c0, .bool q], .bool true]) ?_ rfl ⟨_, _, _, _, _, rfl, hz.1, hz.2.1, hz.2.2, hfr⟩
  exact res_row Try.results25 _ _ w.heap.size _ _ true rfl rfl z0 z1
end Go.Proofs.Ytehfejgalemhaaa
