/- The walks of one and Pop. -/
import Derived.Test.YtehfejgalemhaaaNh
import Derived.Test.YtehfejgalemhaaaNf
namespace Go.Proofs.Ytehfejgalemhaaa
open Go.RowKit

theorem heap4 (w : World) (o1 o2 o3 o4 : Obj) : ((((w.alloc o1).alloc o2).alloc o3).alloc o4).heap[w.heap.size + 2]? = some o3 ∧ ((((w.alloc o1).alloc o2).alloc o3).alloc o4).heap[w.heap.size + 1 + 1 + 1]? = some o4 := by
  have h3 := heap_alloc_new ((w.alloc o1).alloc o2) o3
  have h4 := heap_alloc_new (((w.alloc o1).alloc o2).alloc o3) o4
  simp only [World.size_alloc] at h3 h4
  exact ⟨(heap_alloc_old _ o4 (by simp)).trans h3, h4⟩
set_option maxRecDepth 100000 in
set_option maxHeartbeats 2000000 in
theorem one_any {P P' : Nat → Prop} (u1 u2 v1 v2 : Value) (o : Option (Int × Bool)) (w : World) (h : RVo P w u1 u2 o) (h' : RVo P' w v1 v2 o) :
    Calls Try.prog 20 #[.agg #[u1, u2], .agg #[v1, v2]] w fun e w' => e = .returned (.bool true) ∧ Below w.heap.size w w' := by
  have HS : Hid (∀ o1 o2, Calls Try.prog 13 #[.slice (some ⟨w.heap.size + 2, 0, none⟩) 1 1, .slice (some ⟨w.heap.size + 1 + 1 + 1, 0, none⟩) 1 1] ((((w.alloc o1).alloc o2).alloc (.cells #[u1, u2] 43)).alloc (.cells #[v1, v2] 43)) fun e w' => e = .returned (.bool true) ∧ Below w.heap.size w w') := Lib.hid fun o1 o2 => by
    have hb : Below w.heap.size w ((((w.alloc o1).alloc o2).alloc (.cells #[u1, u2] 43)).alloc (.cells #[v1, v2] 43)) := belA (belA (belA (belA (Below.refl _ _) _) _) _) _
    obtain ⟨h3, h4⟩ := heap4 w o1 o2 (.cells #[u1, u2] 43) (.cells #[v1, v2] 43)
    exact (same9_any _ _ [o] 1 1 1 rfl (by decide) _ (RA.one (h.past hb) h3) (RA.one (h'.past hb) h4)).mono fun e w' he => ⟨he.1, bel0 hb he.2⟩
  obtain ⟨rfl, A1, n1, c1, rfl⟩ := h.cont
  obtain ⟨rfl, A2, n2, c2, rfl⟩ := h'.cont
  clear h h'
  generalize contO o = q at *
  go_enter Try.func20, Try.ntmps20
  go_wp2_with (go_at_call 13; go_must (with_reducible refine (HS.out _ _).mono ?_; rintro e5 w5 ⟨rfl, hb5⟩))
  go_ret
  exact ⟨rfl, hb5⟩

theorem KB.wide {S : Nat → Prop} {w w' : World} (h : KB S w w') (S' : Nat → Prop) (hs : ∀ i, S i → S' i) : KB S' w w' := ⟨h.os, h.tape, h.output, h.size, fun i hi e => h.block i hi fun e' => e (hs i e')⟩
/-- A slot behind the rows is written. -/
theorem OR.behind {w : World} {n g off c : Nat} {xs : List Value} (h : OR w (.slice (some ⟨g, off, none⟩) n c) n xs) (k : Nat) (v : Value) (hk : off + n * 2 ≤ k) : OR (w.setCell ⟨g, k, none⟩ v) (.slice (some ⟨g, off, none⟩) n c) n xs := by
  refine ⟨h.1, ?_⟩
  rcases h.2 with hn | ⟨g', off', cap, cur, e, hh, h1, h2, h3, hr⟩
  · exact .inl hn
  · simp only [Value.slice.injEq, Option.some.injEq, Addr.mk.injEq, and_true, true_and] at e
    obtain ⟨⟨rfl, rfl⟩, rfl⟩ := e
    refine .inr ⟨g, off, c, _, rfl, heap_setCell_same w g k cur _ v hh, h1, h2, by simpa using h3, fun j u hu => ?_⟩
    have hj : j < xs.length := (List.getElem?_eq_some_iff.1 hu).1
    have hl := h.1
    rw [World.cell?_setCell_other _ _ _ _ (by simp <;> omega)]
    exact hr j u hu
theorem OR.init {w : World} {n g off c : Nat} {a b : Value} {xs : List Value} (h : OR w (.slice (some ⟨g, off, none⟩) (n + 1) c) (n + 1) (xs ++ [a, b])) : OR w (.slice (some ⟨g, off, none⟩) n c) n xs ∧ w.cell? ⟨g, off + n * 2, none⟩ = some a ∧ w.cell? ⟨g, off + n * 2 + 1, none⟩ = some b := by
  have hx : xs.length = n * 2 := by have := h.1; simp at this; omega
  rcases h.2 with ⟨h0, _⟩ | ⟨g', off', cap, cur, e, hh, h1, h2, h3, hr⟩
  · simp at h0
  · simp only [Value.slice.injEq, Option.some.injEq, Addr.mk.injEq, and_true, true_and] at e
    obtain ⟨⟨rfl, rfl⟩, rfl⟩ := e
    refine ⟨⟨hx, .inr ⟨g, off, c, cur, rfl, hh, by omega, h2, h3, fun j u hu => hr j u ?_⟩⟩, ?_, ?_⟩
    · have hj : j < xs.length := (List.getElem?_eq_some_iff.1 hu).1
      rw [List.getElem?_append_left hj]; exact hu
    · refine hr (n * 2) a ?_
      rw [List.getElem?_append_right (by omega), hx]; simp
    · have := hr (n * 2 + 1) b (by rw [List.getElem?_append_right (by omega), hx, show n * 2 + 1 - n * 2 = 1 from by omega]; rfl)
      rwa [← Nat.add_assoc] at this
theorem RS.init {P : Nat → Prop} {w : World} {a b : Value} {r : Int × Bool} : ∀ {xs : List Value} {L : List (Int × Bool)}, xs.length = L.length * 2 → RS P w (xs ++ [a, b]) (L ++ [r]) → RS P w xs L ∧ RV P w a b r
  | [], [], _, h => ⟨trivial, h.1⟩
  | x :: y :: xs, q :: L, hl, h => by
    obtain ⟨h1, h2⟩ := RS.init (xs := xs) (L := L) (by simp at hl; omega) h.2
    exact ⟨⟨h.1, h1⟩, h2⟩
  | [], _ :: _, hl, _ => by simp at hl
  | [_], _, hl, _ => by simp at hl; omega
  | _ :: _ :: _, [], hl, _ => by simp at hl
/-- The last row's slots are written over, and it is left out. -/
theorem RM.popped {P : Nat → Prop} {w : World} {D n g off c room : Nat} {gone : Int} {L : List (Int × Bool)} {a b : Value} {xs : List Value} {r : Int × Bool} (h : RM P w D (.slice (some ⟨g, off, none⟩) (n + 1) c) room gone (L ++ [r]) (xs ++ [a, b])) (hn : n = L.length) (o : Obj) (x y : Value) :
    RM P (((((w.setCell ⟨g, off + n * 2, none⟩ x).setCell ⟨g, off + n * 2 + 1, none⟩ y).setCell ⟨D, 0, none⟩ (.slice (some ⟨g, off, none⟩) n c)).alloc (.cells #[a, b] 43)).alloc o) D (.slice (some ⟨g, off, none⟩) n c) room gone L xs ∧ RV P (((((w.setCell ⟨g, off + n * 2, none⟩ x).setCell ⟨g, off + n * 2 + 1, none⟩ y).setCell ⟨D, 0, none⟩ (.slice (some ⟨g, off, none⟩) n c)).alloc (.cells #[a, b] 43)).alloc o) a b r ∧ KB (fun i => i = D ∨ i = g) w (((((w.setCell ⟨g, off + n * 2, none⟩ x).setCell ⟨g, off + n * 2 + 1, none⟩ y).setCell ⟨D, 0, none⟩ (.slice (some ⟨g, off, none⟩) n c)).alloc (.cells #[a, b] 43)).alloc o) ∧ (((((w.setCell ⟨g, off + n * 2, none⟩ x).setCell ⟨g, off + n * 2 + 1, none⟩ y).setCell ⟨D, 0, none⟩ (.slice (some ⟨g, off, none⟩) n c)).alloc (.cells #[a, b] 43)).alloc o).cell? ⟨w.heap.size, 0, none⟩ = some a ∧ (((((w.setCell ⟨g, off + n * 2, none⟩ x).setCell ⟨g, off + n * 2 + 1, none⟩ y).setCell ⟨D, 0, none⟩ (.slice (some ⟨g, off, none⟩) n c)).alloc (.cells #[a, b] 43)).alloc o).cell? ⟨w.heap.size, 1, none⟩ = some b := by
  subst hn
  have hne := h.ne g rfl
  have hrow := OR.init (by have := h.rows; rwa [List.length_append] at this)
  have hx : xs.length = L.length * 2 := hrow.1.1
  have heach := RS.init hx h.each
  have h1 := hrow.1.behind (off + L.length * 2) x (Nat.le_refl _)
  have h2 := h1.behind (off + L.length * 2 + 1) y (Nat.le_succ _)
  have k1g : KB (fun i => i = g) w ((w.setCell ⟨g, off + L.length * 2, none⟩ x).setCell ⟨g, off + L.length * 2 + 1, none⟩ y) := (KB.set (S := fun i => i = g) _ x rfl).trans (KB.set (S := fun i => i = g) _ y rfl) fun _ _ e => e
  have hD : ((w.setCell ⟨g, off + L.length * 2, none⟩ x).setCell ⟨g, off + L.length * 2 + 1, none⟩ y).heap[D]? = _ := (k1g.block D h.lt (fun e => hne e.symm)).trans h.d
  have hD1 := (heap_set_ring hD (.slice (some ⟨g, off, none⟩) L.length c)).1
  have hsz : (((w.setCell ⟨g, off + L.length * 2, none⟩ x).setCell ⟨g, off + L.length * 2 + 1, none⟩ y).setCell ⟨D, 0, none⟩ (.slice (some ⟨g, off, none⟩) L.length c)).heap.size = w.heap.size := by rw [World.size_setCell, World.size_setCell, World.size_setCell]
  generalize hW : (w.setCell ⟨g, off + L.length * 2, none⟩ x).setCell ⟨g, off + L.length * 2 + 1, none⟩ y = W at *
  have kD : KB (fun i => i = D) W (W.setCell ⟨D, 0, none⟩ (.slice (some ⟨g, off, none⟩) L.length c)) := KB.set 0 _ rfl
  generalize hV : W.setCell ⟨D, 0, none⟩ (.slice (some ⟨g, off, none⟩) L.length c) = V at *
  have kb : Below V.heap.size V ((V.alloc (.cells #[a, b] 43)).alloc o) := belA (belA (Below.refl _ _) _) _
  have kall : KB (fun i => i = D ∨ i = g) w ((V.alloc (.cells #[a, b] 43)).alloc o) := ((k1g.wide (fun i => i = D ∨ i = g) fun _ e => .inr e).trans kD fun _ _ e => .inl e).trans (KB.of_below (S := fun _ => False) kb) fun _ _ e => e.elim
  have hnc : NC (fun i => i = D ∨ i = g) P w := fun i cur' hi hS hp hc => by
    rcases hS with rfl | rfl
    · exact h.nc P i cur' hi (.inl rfl) hp hc
    · exact h.nc P i cur' hi (.inr rfl) hp hc
  have hn : ((V.alloc (.cells #[a, b] 43)).alloc o).heap[w.heap.size]? = some (.cells #[a, b] 43 (0, 0)) := by
    rw [← hsz]
    exact (heap_alloc_old _ o (by simp)).trans (heap_alloc_new V _)
  refine ⟨⟨?_, ?_, heach.1.map fun _ _ _ hr => hr.kept kall hnc⟩, heach.2.kept kall hnc, kall, cell_of_row _ _ 0 _ _ _ hn, cell_of_row _ _ 1 _ _ _ hn⟩
  · exact (kb.block D (Array.getElem?_eq_some_iff.1 hD1).1).trans hD1
  · refine (h2.kept kD (fun g' e e2 => ?_)).kept (KB.of_below (S := fun _ => False) kb) (fun _ _ e => e)
    simp [Value.ownBlock] at e
    exact hne (e.trans e2)

set_option maxRecDepth 100000 in
set_option maxHeartbeats 2000000 in
theorem pop_empty {P : Nat → Prop} (w : World) (D : Nat) (v : Value) (room : Nat) (gone : Int) (xs : List Value) (h : RM P w D v room gone [] xs) :
    Calls Try.prog 21 #[.pointer (some ⟨D, 0, none⟩)] w fun e w' => e = .returned (.tuple #[.agg #[.slice none 0 0, .bool false], .bool false]) ∧ Below w.heap.size w w' := by
  have HL : Hid (∀ W, Below w.heap.size w W → Calls Try.prog 11 #[.pointer (some ⟨D, 0, none⟩)] W fun e w' => e = .returned (.int .i64 0) ∧ w' = W) := Lib.hid fun W hW => len_any W D v room gone [] xs (h.past hW)
  clear h
  go_enter Try.func21, Try.ntmps21
  go_wp2_with (go_at_call 11; go_must (with_reducible refine (HL.out _ ((Below.refl _ _).alloc (Nat.le_refl _) _)).mono ?_; rintro e5 w5 ⟨rfl, rfl⟩))
  refine bodyPost_ret (v := .tuple #[.agg #[.slice none 0 0, .bool false], .bool false]) (by simp [results, Try.results21, go_sem]) rfl ⟨rfl, ?_⟩
  exact (Below.refl _ _).alloc (Nat.le_refl _) _
set_option maxRecDepth 100000 in
set_option maxHeartbeats 2000000 in
theorem pop_some {P : Nat → Prop} (w : World) (D : Nat) (v : Value) (room : Nat) (gone : Int) (L : List (Int × Bool)) (r : Int × Bool) (xs : List Value) (h : RM P w D v room gone (L ++ [r]) xs) (hl : L.length ≤ 1000000) :
    Calls Try.prog 21 #[.pointer (some ⟨D, 0, none⟩)] w fun e w' => ∃ A c xs' o1 o2, e = .returned (.tuple #[.agg #[o1, o2], .bool true]) ∧ RM P w' D (.slice A L.length c) room gone L xs' ∧ RV P w' o1 o2 r ∧ KB (fun i => i = D ∨ some i = v.ownBlock) w w' ∧ (Value.slice A L.length c).ownBlock = v.ownBlock := by
  have hlen : (L ++ [r]).length = L.length + 1 := by simp
  obtain ⟨g, off, c, rfl, hc⟩ := OR.form (n := L.length) (by have := h.rows; rwa [hlen] at this)
  have hxl : xs.length = (L.length + 1) * 2 := by have := h.rows.1; rwa [hlen] at this
  obtain ⟨ys, a, b, rfl⟩ : ∃ ys a b, xs = ys ++ [a, b] := by
    obtain ⟨a, b, hd⟩ := two_of' (l := xs.drop (L.length * 2)) (by simp; omega)
    exact ⟨xs.take (L.length * 2), a, b, by rw [← hd, List.take_append_drop]⟩
  have HL : Hid (∀ W, Below w.heap.size w W → Calls Try.prog 11 #[.pointer (some ⟨D, 0, none⟩)] W fun e w' => e = .returned (.int .i64 ((L.length : Int) + 1)) ∧ w' = W) := Lib.hid fun W hW => (len_any W D _ room gone (L ++ [r]) _ (h.past hW)).mono fun e w' he => ⟨by rw [he.1, hlen]; simp, he.2⟩
  have hrows : OR w (.slice (some ⟨g, off, none⟩) (L.length + 1) c) (L.length + 1) (ys ++ [a, b]) := by have := h.rows; rwa [hlen] at this
  obtain ⟨_, e0, e1⟩ := hrows.init
  have heach := RS.init (by simp at hxl; omega) h.each
  obtain ⟨b0, c0, rfl, rfl, _⟩ := heach.2.cells
  have hlt := h.lt
  have hlg : g < w.heap.size := (h.rows.lt g rfl).1
  have hgD : g ≠ D := h.ne g rfl
  have HFIN : Hid (∀ (o : Obj) (x y : Value), (RM P (((((w.setCell ⟨g, off + L.length * 2, none⟩ x).setCell ⟨g, off + L.length * 2 + 1, none⟩ y).setCell ⟨D, 0, none⟩ (.slice (some ⟨g, off, none⟩) L.length c)).alloc (.cells #[.slice (some ⟨b0, 0, none⟩) 1 c0, .bool r.2] 43)).alloc o) D (.slice (some ⟨g, off, none⟩) L.length c) room gone L ys ∧ RV P (((((w.setCell ⟨g, off + L.length * 2, none⟩ x).setCell ⟨g, off + L.length * 2 + 1, none⟩ y).setCell ⟨D, 0, none⟩ (.slice (some ⟨g, off, none⟩) L.length c)).alloc (.cells #[.slice (some ⟨b0, 0, none⟩) 1 c0, .bool r.2] 43)).alloc o) (.slice (some ⟨b0, 0, none⟩) 1 c0) (.bool r.2) r ∧ KB (fun i => i = D ∨ some i = (Value.slice (some (⟨g, off, none⟩ : Addr)) (L.length + 1) c).ownBlock) w (((((w.setCell ⟨g, off + L.length * 2, none⟩ x).setCell ⟨g, off + L.length * 2 + 1, none⟩ y).setCell ⟨D, 0, none⟩ (.slice (some ⟨g, off, none⟩) L.length c)).alloc (.cells #[.slice (some ⟨b0, 0, none⟩) 1 c0, .bool r.2] 43)).alloc o)) ∧ (((((w.setCell ⟨g, off + L.length * 2, none⟩ x).setCell ⟨g, off + L.length * 2 + 1, none⟩ y).setCell ⟨D, 0, none⟩ (.slice (some ⟨g, off, none⟩) L.length c)).alloc (.cells #[.slice (some ⟨b0, 0, none⟩) 1 c0, .bool r.2] 43)).alloc o).cell? ⟨w.heap.size, 0, none⟩ = some (.slice (some ⟨b0, 0, none⟩) 1 c0) ∧ (((((w.setCell ⟨g, off + L.length * 2, none⟩ x).setCell ⟨g, off + L.length * 2 + 1, none⟩ y).setCell ⟨D, 0, none⟩ (.slice (some ⟨g, off, none⟩) L.length c)).alloc (.cells #[.slice (some ⟨b0, 0, none⟩) 1 c0, .bool r.2] 43)).alloc o).cell? ⟨w.heap.size, 1, none⟩ = some (.bool r.2)) := Lib.hid fun o x y => by
    obtain ⟨q1, q2, q3, q4, q5⟩ := RM.popped h rfl o x y
    exact ⟨⟨q1, q2, q3.wide _ fun i e => e.imp id fun e => by rw [e]; rfl⟩, q4, q5⟩
  obtain ⟨⟨d0, d1, d2⟩, df⟩ := h.cells
  have ef : ∀ k, w.frozen? ⟨g, k, none⟩ = false := (hrows.cell (j := 0) (u := (ys ++ [.slice (some ⟨b0, 0, none⟩) 1 c0, .bool r.2])[0]?.getD undef) (by cases ys <;> rfl)).2
  have hw1 : IntKind.i64.wrap ((L.length : Int) + 1 - 1) = L.length := by rw [show (L.length : Int) + 1 - 1 = L.length from by omega]; exact IntWalk.i64_in _ (by omega)
  have hi0 : ¬ (L.length : Int) < 0 := by omega
  have hi1 : (0 : Int) ≤ L.length := by omega
  have hi2 : (L.length : Int) < (L.length : Int) + 1 := by omega
  have hi3 : (L.length : Int) ≤ (L.length : Int) + 1 := by omega
  have hi4 : (L.length : Int) ≤ c := by omega
  clear h hrows heach hxl hlen
  generalize r.2 = q at *
  generalize hk : L.length = n at *
  go_enter Try.func21, Try.ntmps21
  go_wp2_with (go_at_call 11; go_must (with_reducible refine (HL.out _ ((Below.refl _ _).alloc (Nat.le_refl _) _)).mono ?_; rintro e5 w5 ⟨rfl, rfl⟩))
  obtain ⟨⟨z1, z2, z3⟩, z4, z5⟩ := HFIN.out (.cells #[.slice (some ⟨b0, 0, none⟩) 1 c0, .bool q] 43) (.slice none 0 0) (.bool false)
  refine bodyPost_ret (v := .tuple #[.agg #[.slice (some ⟨b0, 0, none⟩) 1 c0, .bool q], .bool true]) ?_ rfl ⟨_, _, _, _, _, rfl, z1, z2, z3, rfl⟩
  exact res_row Try.results21 _ _ w.heap.size _ _ true rfl rfl z4 z5
end Go.Proofs.Ytehfejgalemhaaa
