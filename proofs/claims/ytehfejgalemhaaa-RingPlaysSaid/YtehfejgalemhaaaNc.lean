/- A ring in memory; append of a row in a region that draws its order. -/
import Derived.Test.YtehfejgalemhaaaNb
namespace Go.Proofs.Ytehfejgalemhaaa
open Go.RowKit

theorem step_append_rows {ops : Array Oper} {o : Oper} {a : Act} {w : World} {K : Act → World → Prop} {Q : Exit → Act → World → Prop} {E : Prop}
    (hg : o.guard = none) (s x : Operand) (hop : o.op = Op.call { callee := Callee.builtin Builtin.append, args := #[s, x], argTypes := #[29, 29] })
    (v : Value) (n : Nat) (xs : List Value) (hs : a.eval s = v) (hown : OR w v n xs) (ad : Addr) (c : Nat) (u1 u2 : Value) (hx : a.eval x = .slice (some ad) 1 c)
    (hc : ∀ j u, [u1, u2][j]? = some u → w.cell? (ad.add j) = some u) (h1c : ∀ u ∈ [u1, u2], u.oneCell' = true) (b1 : n ≤ 1000000)
    (hK : ∀ v' w', OR w' v' (n + 1) (xs ++ [u1, u2]) → w.grownBy w' v.ownBlock → (v'.ownBlock = v.ownBlock ∨ v'.ownBlock = some w.heap.size) → K (a.put o.dst v') w') :
    if Region.wanted o (yielded ops a.tmps) = true then Oper.wp Try.prog o a w K Q else E := by
  have hw : Region.wanted o (yielded ops a.tmps) = true := by simp [Region.wanted, hg]
  rw [if_pos hw]
  obtain ⟨v', w', hr, h2, h3, h4⟩ := run_append_rows hown o.type ad c u1 u2 hc h1c b1
  unfold Oper.wp execOp
  simp only [hop, resolve, invoke, builtin, Sem.run_bind, Sem.run_pure, Result.andThen_ok, List.map_toArray, List.map_cons, List.map_nil, hs, hx, hr]
  exact hK v' w' h2 h3 h4

/-- A ring lies at D: its rows' slice, its room, how many went. -/
structure RM (P : Nat → Prop) (w : World) (D : Nat) (v : Value) (room : Nat) (gone : Int) (L : List (Int × Bool)) (xs : List Value) : Prop where
  d : w.heap[D]? = some (.cells #[v, .int .i64 room, .int .u64 gone] 62 (0, 0))
  rows : OR w v L.length xs
  each : RS P w xs L
theorem RM.lt {P : Nat → Prop} {w : World} {D : Nat} {v : Value} {room : Nat} {gone : Int} {L : List (Int × Bool)} {xs : List Value} (h : RM P w D v room gone L xs) : D < w.heap.size := (Array.getElem?_eq_some_iff.1 h.d).1
theorem RM.ne {P : Nat → Prop} {w : World} {D : Nat} {v : Value} {room : Nat} {gone : Int} {L : List (Int × Bool)} {xs : List Value} (h : RM P w D v room gone L xs) : ∀ g, v.ownBlock = some g → g ≠ D := fun g hg e => by
  obtain ⟨cur, hc⟩ := (h.rows.lt g hg).2
  rw [e, h.d] at hc
  injection hc with hc
  injection hc with _ h1 _
  exact absurd h1 (by decide)
theorem RM.kept {P S : Nat → Prop} {w w' : World} {D : Nat} {v : Value} {room : Nat} {gone : Int} {L : List (Int × Bool)} {xs : List Value} (h : RM P w D v room gone L xs) (hk : KB S w w') (hD : ¬ S D) (hs : ∀ g, v.ownBlock = some g → ¬ S g) (hn : NC S P w) : RM P w' D v room gone L xs :=
  ⟨(hk.block D h.lt hD).trans h.d, h.rows.kept hk hs, h.each.map fun _ _ _ hr => hr.kept hk hn⟩
theorem RM.past {P : Nat → Prop} {w w' : World} {D : Nat} {v : Value} {room : Nat} {gone : Int} {L : List (Int × Bool)} {xs : List Value} (h : RM P w D v room gone L xs) (hb : Below w.heap.size w w') : RM P w' D v room gone L xs :=
  h.kept (KB.of_below (S := fun _ => False) hb) id (fun _ _ e => e) (fun _ _ _ e => e.elim)
theorem RM.cells {P : Nat → Prop} {w : World} {D : Nat} {v : Value} {room : Nat} {gone : Int} {L : List (Int × Bool)} {xs : List Value} (h : RM P w D v room gone L xs) :
    (w.cell? ⟨D, 0, none⟩ = some v ∧ w.cell? ⟨D, 1, none⟩ = some (.int .i64 room) ∧ w.cell? ⟨D, 2, none⟩ = some (.int .u64 gone)) ∧ ∀ k, w.frozen? ⟨D, k, none⟩ = false :=
  ⟨⟨cell_of_row _ _ 0 _ _ _ h.d, cell_of_row _ _ 1 _ _ _ h.d, cell_of_row _ _ 2 _ _ _ h.d⟩, fun k => by simp [World.frozen?, h.d]⟩
/-- The slots of a ring are no cells' blocks. -/
theorem RM.nc {P : Nat → Prop} {w : World} {D : Nat} {v : Value} {room : Nat} {gone : Int} {L : List (Int × Bool)} {xs : List Value} (h : RM P w D v room gone L xs) (P' : Nat → Prop) : NC (fun i => i = D ∨ some i = v.ownBlock) P' w := fun i cur hi hS _ hc => by
  rcases hS with rfl | hS
  · rw [h.d] at hc
    injection hc with hc
    injection hc with _ h1 _
    exact absurd h1 (by decide)
  · obtain ⟨c', h'⟩ := (h.rows.lt i hS.symm).2
    rw [h'] at hc
    injection hc with hc
    injection hc with _ h1 _
    exact absurd h1 (by decide)
theorem OR.form {w : World} {v : Value} {n : Nat} {xs : List Value} (h : OR w v (n + 1) xs) : ∃ g off c, v = .slice (some ⟨g, off, none⟩) (n + 1) c ∧ n + 1 ≤ c := by
  rcases h.2 with ⟨_, h0⟩ | ⟨g, off, cap, cur, rfl, _, h1, _⟩
  · omega
  · exact ⟨g, off, cap, rfl, h1⟩
theorem OR.shape {w : World} {v : Value} {n : Nat} {xs : List Value} (h : OR w v n xs) : ∃ A c, v = .slice A n c := by
  rcases h.2 with ⟨rfl, rfl⟩ | ⟨g, off, cap, cur, rfl, _⟩
  · exact ⟨none, 0, rfl⟩
  · exact ⟨_, cap, rfl⟩
theorem OR.cell {w : World} {n g off c : Nat} {xs : List Value} (h : OR w (.slice (some ⟨g, off, none⟩) n c) n xs) {j : Nat} {u : Value} (hu : xs[j]? = some u) : w.cell? ⟨g, off + j, none⟩ = some u ∧ ∀ k, w.frozen? ⟨g, k, none⟩ = false := by
  rcases h.2 with ⟨h0, _⟩ | ⟨g', off', cap, cur, e, hh, _, _, _, hr⟩
  · simp at h0
  · simp only [Value.slice.injEq, Option.some.injEq, Addr.mk.injEq, and_true, true_and] at e
    obtain ⟨⟨rfl, rfl⟩, rfl⟩ := e
    exact ⟨hr j u hu, fun k => by simp [World.frozen?, hh]⟩
theorem heap_set_ring {w : World} {D : Nat} {a b c : Value} {t : TypeId} (h : w.heap[D]? = some (.cells #[a, b, c] t (0, 0))) (v : Value) : (w.setCell ⟨D, 0, none⟩ v).heap[D]? = some (.cells #[v, b, c] t (0, 0)) ∧ (w.setCell ⟨D, 2, none⟩ v).heap[D]? = some (.cells #[a, b, v] t (0, 0)) :=
  ⟨heap_setCell_same w D 0 _ t v h, heap_setCell_same w D 2 _ t v h⟩

/-- A row has come behind the others, and the ring's slice is laid anew. -/
theorem push_mid {P : Nat → Prop} {w w5 w6 : World} {D : Nat} {v v6 v1 v2 : Value} {room : Nat} {gone : Int} {L : List (Int × Bool)} {xs : List Value} {r : Int × Bool} {g5 c5 : Nat} (h : RM P w D v room gone L xs) (hP : ∀ b, w.heap.size ≤ b → P b)
    (hb5 : Below ((w.alloc (.cells #[v1, v2] 43)).alloc (.cells #[.slice none 0 0, .bool false] 43)).heap.size ((w.alloc (.cells #[v1, v2] 43)).alloc (.cells #[.slice none 0 0, .bool false] 43)) w5)
    (hr5 : RV (fun b => w.heap.size ≤ b) w5 (.slice (some ⟨g5, 0, none⟩) 1 c5) (.bool r.2) r) (o : Obj)
    (ho6 : OR w6 v6 (L.length + 1) (xs ++ [.slice (some ⟨g5, 0, none⟩) 1 c5, .bool r.2])) (hg6 : (w5.alloc o).grownBy w6 v.ownBlock) (hor : v6.ownBlock = v.ownBlock ∨ v6.ownBlock = some (w5.alloc o).heap.size) :
    (w6.cell? ⟨D, 0, none⟩ = some v ∧ w6.frozen? ⟨D, 0, none⟩ = false) ∧ RM P (w6.setCell ⟨D, 0, none⟩ v6) D v6 room gone (L ++ [r]) (xs ++ [.slice (some ⟨g5, 0, none⟩) 1 c5, .bool r.2]) ∧ KB (fun i => i = D ∨ some i = v.ownBlock) w (w6.setCell ⟨D, 0, none⟩ v6) ∧
      (w6.setCell ⟨D, 0, none⟩ v6).heap[w.heap.size]? = some (.cells #[v1, v2] 43 (0, 0)) ∧ (w6.setCell ⟨D, 0, none⟩ v6).heap[w.heap.size + 1]? = some (.cells #[.slice none 0 0, .bool false] 43 (0, 0)) ∧
      (v6.ownBlock = v.ownBlock ∨ ∃ g, v6.ownBlock = some g ∧ w.heap.size + 1 < g) := by
  have hlt := h.lt
  have hA : Below w.heap.size w w5 := (((Below.refl w.heap.size w).alloc (Nat.le_refl _) _).alloc (by simp) _).trans (hb5.mono (by simp; omega))
  have hs5 : w.heap.size + 2 ≤ w5.heap.size := by have := hb5.size; simp at this; omega
  have hA' : Below w.heap.size w (w5.alloc o) := hA.alloc hA.size _
  have h5 := h.past hA'
  have hvlt : ∀ i, some i = v.ownBlock → i < w.heap.size := fun i e => (h.rows.lt i e.symm).1
  have hvD : some D ≠ v.ownBlock := fun e => h.ne D e.symm rfl
  have hd6 : w6.heap[D]? = _ := (hg6.block D (Nat.lt_of_lt_of_le hlt hA'.size) hvD).trans h5.d
  have hk6 : KB (fun i => i = D ∨ some i = v.ownBlock) (w5.alloc o) w6 := KB.of_grown hg6 fun i e => .inr e
  have hk7 : KB (fun i => i = D ∨ some i = v.ownBlock) w6 (w6.setCell ⟨D, 0, none⟩ v6) := KB.set 0 v6 (.inl rfl)
  have hkk : KB (fun i => i = D ∨ some i = v.ownBlock) (w5.alloc o) (w6.setCell ⟨D, 0, none⟩ v6) := hk6.trans hk7 fun _ _ e => e
  have hkw : KB (fun i => i = D ∨ some i = v.ownBlock) w (w6.setCell ⟨D, 0, none⟩ v6) := (KB.of_below hA').trans hkk fun _ _ e => e
  have hnc5 := h5.nc P
  have hv6 : ∀ g, v6.ownBlock = some g → g ≠ D := fun g e e2 => by
    rcases hor with e3 | e3
    · exact h.ne g (e3.symm.trans e) e2
    · rw [e3] at e; injection e with e; have := hA'.size; omega
  refine ⟨⟨cell_of_row _ _ 0 _ _ _ hd6, by simp [World.frozen?, hd6]⟩, ⟨(heap_set_ring hd6 v6).1, ?_, ?_⟩, hkw, ?_, ?_, ?_⟩
  · rw [List.length_append]
    exact ho6.kept (KB.set (S := fun i => i = D) 0 v6 rfl) (fun g e e2 => hv6 g e e2)
  · exact RS.snoc (((hr5.past ((Below.refl _ w5).alloc (Nat.le_refl _) o)).mono fun b _ hb => hP b hb).kept hkk hnc5) (h5.each.map fun _ _ _ hr => hr.kept hkk hnc5)
  · refine (hkk.block _ (by simp; omega) (fun e => ?_)).trans ((heap_alloc_old w5 o (by omega)).trans ((hb5.block _ (by simp; omega)).trans ((heap_alloc_old _ _ (by simp)).trans (heap_alloc_new w _))))
    rcases e with e | e
    · omega
    · have := hvlt _ e; omega
  · refine (hkk.block _ (by simp; omega) (fun e => ?_)).trans ((heap_alloc_old w5 o (by omega)).trans ((hb5.block _ (by simp)).trans (by have := heap_alloc_new (w.alloc (.cells #[v1, v2] 43)) (.cells #[.slice none 0 0, .bool false] 43); rwa [World.size_alloc] at this)))
    rcases e with e | e
    · omega
    · have := hvlt _ e; omega
  · rcases hor with e | e
    · exact .inl e
    · exact .inr ⟨_, e, by simp; omega⟩
end Go.Proofs.Ytehfejgalemhaaa
