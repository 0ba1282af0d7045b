/- The reference's ring in memory; rows appended to none; the walks of its Clear and Pop. -/
import Derived.Test.YtehfejgalemhaaaNv
namespace Go.Proofs.Ytehfejgalemhaaa
open Go.RowKit

/-- The reference's ring lies at D: its room, its rows' slice, how many went. -/
structure RF (P : Nat → Prop) (w : World) (D : Nat) (v : Value) (room : Nat) (gone : Int) (L : List (Int × Bool)) (xs : List Value) : Prop where
  d : w.heap[D]? = some (.cells #[.int .i64 room, v, .int .u64 gone] 32 (0, 0))
  rows : OR w v L.length xs
  each : RS P w xs L
theorem RF.lt {P : Nat → Prop} {w : World} {D : Nat} {v : Value} {room : Nat} {gone : Int} {L : List (Int × Bool)} {xs : List Value} (h : RF P w D v room gone L xs) : D < w.heap.size := (Array.getElem?_eq_some_iff.1 h.d).1
theorem RF.ne {P : Nat → Prop} {w : World} {D : Nat} {v : Value} {room : Nat} {gone : Int} {L : List (Int × Bool)} {xs : List Value} (h : RF P w D v room gone L xs) : ∀ g, v.ownBlock = some g → g ≠ D := fun g hg e => by
  obtain ⟨cur, hc⟩ := (h.rows.lt g hg).2
  rw [e, h.d] at hc
  injection hc with hc
  injection hc with _ h1 _
  exact absurd h1 (by decide)
theorem RF.kept {P S : Nat → Prop} {w w' : World} {D : Nat} {v : Value} {room : Nat} {gone : Int} {L : List (Int × Bool)} {xs : List Value} (h : RF P w D v room gone L xs) (hk : KB S w w') (hD : ¬ S D) (hs : ∀ g, v.ownBlock = some g → ¬ S g) (hn : NC S P w) : RF P w' D v room gone L xs :=
  ⟨(hk.block D h.lt hD).trans h.d, h.rows.kept hk hs, h.each.map fun _ _ _ hr => hr.kept hk hn⟩
theorem RF.past {P : Nat → Prop} {w w' : World} {D : Nat} {v : Value} {room : Nat} {gone : Int} {L : List (Int × Bool)} {xs : List Value} (h : RF P w D v room gone L xs) (hb : Below w.heap.size w w') : RF P w' D v room gone L xs :=
  h.kept (KB.of_below (S := fun _ => False) hb) id (fun _ _ e => e) (fun _ _ _ e => e.elim)
theorem RF.cells {P : Nat → Prop} {w : World} {D : Nat} {v : Value} {room : Nat} {gone : Int} {L : List (Int × Bool)} {xs : List Value} (h : RF P w D v room gone L xs) :
    (w.cell? ⟨D, 0, none⟩ = some (.int .i64 room) ∧ w.cell? ⟨D, 1, none⟩ = some v ∧ w.cell? ⟨D, 2, none⟩ = some (.int .u64 gone)) ∧ ∀ k, w.frozen? ⟨D, k, none⟩ = false :=
  ⟨⟨cell_of_row _ _ 0 _ _ _ h.d, cell_of_row _ _ 1 _ _ _ h.d, cell_of_row _ _ 2 _ _ _ h.d⟩, fun k => by simp [World.frozen?, h.d]⟩
theorem RF.nc {P : Nat → Prop} {w : World} {D : Nat} {v : Value} {room : Nat} {gone : Int} {L : List (Int × Bool)} {xs : List Value} (h : RF P w D v room gone L xs) (P' : Nat → Prop) : NC (fun i => i = D ∨ some i = v.ownBlock) P' w := fun i cur hi hS _ hc => by
  rcases hS with rfl | hS
  · rw [h.d] at hc
    injection hc with hc
    injection hc with _ h1 _
    exact absurd h1 (by decide)
  · obtain ⟨c', h'⟩ := (h.rows.lt i hS.symm).2
    rw [h'] at hc
    injection hc with hc
    injection hc with _ h1 _
    exact absurd h1 (by decide)
theorem heap_set_ref {w : World} {D : Nat} {a b c : Value} {t : TypeId} (h : w.heap[D]? = some (.cells #[a, b, c] t (0, 0))) (v : Value) : (w.setCell ⟨D, 1, none⟩ v).heap[D]? = some (.cells #[a, v, c] t (0, 0)) ∧ (w.setCell ⟨D, 2, none⟩ v).heap[D]? = some (.cells #[a, b, v] t (0, 0)) :=
  ⟨heap_setCell_same w D 1 _ t v h, heap_setCell_same w D 2 _ t v h⟩
/-- New rows are laid in a reference's ring. -/
theorem RF.relaid {P : Nat → Prop} {w : World} {D : Nat} {v : Value} {room : Nat} {gone : Int} {L : List (Int × Bool)} {xs : List Value} (h : RF P w D v room gone L xs) {v' : Value} {L' : List (Int × Bool)} {xs' : List Value} (ho : OR w v' L'.length xs') (hs : RS P w xs' L') :
    RF P (w.setCell ⟨D, 1, none⟩ v') D v' room gone L' xs' ∧ KB (fun i => i = D) w (w.setCell ⟨D, 1, none⟩ v') := by
  have kk : KB (fun i => i = D) w (w.setCell ⟨D, 1, none⟩ v') := KB.set 1 _ rfl
  refine ⟨⟨(heap_set_ref h.d v').1, ho.kept kk (fun g e e2 => ?_), hs.map fun _ _ _ q => q.kept kk fun i cur hi hS hp => h.nc P i cur hi (.inl hS) hp⟩, kk⟩
  obtain ⟨cur, hc⟩ := (ho.lt g e).2
  rw [e2, h.d] at hc
  injection hc with hc
  injection hc with _ h1 _
  exact absurd h1 (by decide)
theorem RF.counted {P : Nat → Prop} {w : World} {D : Nat} {v : Value} {room : Nat} {gone : Int} {L : List (Int × Bool)} {xs : List Value} (h : RF P w D v room gone L xs) (gone' : Int) :
    RF P (w.setCell ⟨D, 2, none⟩ (.int .u64 gone')) D v room gone' L xs ∧ KB (fun i => i = D) w (w.setCell ⟨D, 2, none⟩ (.int .u64 gone')) := by
  have kk : KB (fun i => i = D) w (w.setCell ⟨D, 2, none⟩ (.int .u64 gone')) := KB.set 2 _ rfl
  exact ⟨⟨(heap_set_ref h.d _).2, h.rows.kept kk (fun g e e2 => h.ne g e e2), h.each.map fun _ _ _ q => q.kept kk fun i cur hi hS hp => h.nc P i cur hi (.inl hS) hp⟩, kk⟩
theorem OR.of_own {w : World} {base : Nat} {v : Value} {n : Nat} {xs : List Value} (h : w.ownsRow base 43 2 v n xs) : OR w v n xs := by
  refine ⟨h.1, h.2.imp id fun ⟨g, cap, cur, h1, _, h2, h3, h4, h5, h6⟩ => ⟨g, 0, cap, cur, h1, h2, h3, h4, by omega, fun j u hu => ?_⟩⟩
  rw [Nat.zero_add, cell_of_row w g j cur _ _ h2]
  rw [← h6, List.getElem?_take] at hu
  split at hu
  · simpa using hu
  · cases hu
theorem info_row : ∃ i, Try.prog.info? 43 = some i ∧ i.zero = some (.agg #[.slice none 0 0, .bool false]) ∧ i.size = 2 ∧ i.bytes = 32 := by
  have := Try.infoRow
  cases hq : Try.prog.info? 43 with
  | none => rw [hq] at this; cases this
  | some i => rw [hq] at this; simp at this; exact ⟨i, rfl, this.1, this.2.1, this.2.2⟩
theorem RS.ones {P : Nat → Prop} {w : World} : ∀ {xs : List Value} {L : List (Int × Bool)}, RS P w xs L → ∀ u ∈ xs, u.oneCell' = true
  | a :: b :: xs, r :: L, h, u, hu => by
    obtain ⟨b0, c0, rfl, rfl, _⟩ := h.1.cells
    simp only [List.mem_cons] at hu
    rcases hu with rfl | rfl | hu
    · rfl
    · rfl
    · exact RS.ones h.2 u hu
  | [], [], _, u, hu => by simp at hu
  | [], _ :: _, h, _, _ => h.elim
  | [_], _, h, _, _ => by cases h
  | _ :: _ :: _, [], h, _, _ => h.elim

set_option maxRecDepth 100000 in
set_option maxHeartbeats 2000000 in
theorem rclear_any {P : Nat → Prop} (w : World) (D : Nat) (v : Value) (room : Nat) (gone : Int) (L : List (Int × Bool)) (xs : List Value) (h : RF P w D v room gone L xs) (hl : L.length ≤ 1000000) :
    Calls Try.prog 27 #[.pointer (some ⟨D, 0, none⟩)] w fun e w' => e = .returned (.int .i64 L.length) ∧ RF P w' D (.slice none 0 0) room (IntKind.u64.wrap (gone + L.length)) [] [] ∧ KB (fun i => i = D) w w' := by
  have hw1 : IntKind.u64.wrap (L.length : Int) = L.length := IntWalk.u64_in _ (by omega)
  obtain ⟨⟨d0, d1, d2⟩, df⟩ := h.cells
  obtain ⟨A, c, rfl⟩ := h.rows.shape
  obtain ⟨q1, q2⟩ := h.relaid (OR.nil w) (L' := []) (xs' := []) trivial
  obtain ⟨q3, q4⟩ := q1.counted (IntKind.u64.wrap (gone + L.length))
  have HM := Lib.hid (And.intro q3 (q2.trans q4 fun _ _ e => e))
  clear h q1 q2 q3 q4
  generalize L.length = n at *
  go_enter Try.func27, Try.ntmps27
  go_wp2
  try go_region
  try go_wp2
  go_ret
  exact ⟨rfl, HM.out⟩
end Go.Proofs.Ytehfejgalemhaaa
