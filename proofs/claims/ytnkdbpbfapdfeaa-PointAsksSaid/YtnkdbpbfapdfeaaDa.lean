/- Places in a row that lies somewhere in a block of its own; what a call may turn; a store of points in memory. -/
import Derived.Test.YtnkdbpbfapdfeaaEi
import Derived.Laws.AppendOwn
import Derived.Laws.AppendOwnNone
import Derived.Deep.AppendSrc
import Derived.Deep.MidRow
import Derived.Deep.Upon
namespace Go.Proofs.Ytnkdbpbfapdfeaa
open Go.RowKit

theorem infoPos2 : (Try.prog.info? 30).map (fun i => (i.zero, i.size, i.bytes)) = some (some (.agg #[.int .i64 0, .int .i64 0]), 2, 16) := by kernel_rfl

/-- What a call may turn: the blocks S, and what is new. -/
structure KB (S : Nat → Prop) (w w' : World) : Prop where
  os : w'.os = w.os
  tape : w'.tape = w.tape
  output : w'.output = w.output
  size : w.heap.size ≤ w'.heap.size
  block : ∀ i, i < w.heap.size → ¬ S i → w'.heap[i]? = w.heap[i]?
theorem KB.refl (S : Nat → Prop) (w : World) : KB S w w := ⟨rfl, rfl, rfl, Nat.le_refl _, fun _ _ _ => rfl⟩
theorem KB.trans {S S' : Nat → Prop} {w w1 w2 : World} (h : KB S w w1) (h' : KB S' w1 w2) (hs : ∀ i, i < w.heap.size → S' i → S i) : KB S w w2 :=
  ⟨h'.os.trans h.os, h'.tape.trans h.tape, h'.output.trans h.output, Nat.le_trans h.size h'.size, fun i hi hS => (h'.block i (Nat.lt_of_lt_of_le hi h.size) (fun e => hS (hs i hi e))).trans (h.block i hi hS)⟩
theorem KB.of_below {S : Nat → Prop} {w w' : World} (h : Below w.heap.size w w') : KB S w w' := ⟨h.os, h.tape, h.output, h.size, fun i hi _ => h.block i hi⟩
theorem KB.of_grown {S : Nat → Prop} {w w' : World} {row : Option Nat} (h : w.grownBy w' row) (hs : ∀ i, some i = row → S i) : KB S w w' :=
  ⟨h.os, h.tape, h.output, h.size, fun i hi hS => h.block i hi (fun e => hS (hs i e))⟩
theorem KB.set {S : Nat → Prop} {w : World} {b : Nat} (o : Nat) (v : Value) (hs : S b) : KB S w (w.setCell ⟨b, o, none⟩ v) :=
  ⟨rfl, rfl, rfl, by rw [World.size_setCell]; exact Nat.le_refl _, fun i _ hS => heap_setCell_other w ⟨b, o, none⟩ i v (fun e => hS (by rw [e]; exact hs))⟩
theorem KB.to_below {S : Nat → Prop} {w0 w w' : World} (h0 : Below w0.heap.size w0 w) (h : KB S w w') (hs : ∀ i, S i → w0.heap.size ≤ i) : Below w0.heap.size w0 w' :=
  ⟨h.os.trans h0.os, h.tape.trans h0.tape, h.output.trans h0.output, Nat.le_trans h0.size h.size, fun i hi => (h.block i (Nat.lt_of_lt_of_le hi h0.size) (fun e => by have := hs i e; omega)).trans (h0.block i hi)⟩

/-- Rows that lie from a place on in a block of places. -/
def OR (w : World) (v : Value) (n : Nat) (xs : List Value) : Prop :=
  xs.length = n * 2 ∧ ((v = .slice none 0 0 ∧ n = 0) ∨ ∃ g off cap cur, v = .slice (some ⟨g, off, none⟩) n cap ∧ w.heap[g]? = some (.cells cur 30 (0, 0)) ∧ n ≤ cap ∧ cap ≤ maxLen ∧ off + cap * 2 ≤ cur.size ∧ w.rangeAt g off xs)
theorem OR.nil (w : World) : OR w (.slice none 0 0) 0 [] := ⟨rfl, .inl ⟨rfl, rfl⟩⟩
theorem OR.lt {w : World} {v : Value} {n : Nat} {xs : List Value} (h : OR w v n xs) : ∀ g, v.ownBlock = some g → g < w.heap.size ∧ ∃ cur, w.heap[g]? = some (.cells cur 30 (0, 0)) := fun g hg => by
  rcases h.2 with ⟨rfl, _⟩ | ⟨g', off, cap, cur, rfl, hh, _⟩
  · simp [Value.ownBlock] at hg
  · simp [Value.ownBlock] at hg
    subst hg
    exact ⟨(Array.getElem?_eq_some_iff.1 hh).1, cur, hh⟩
theorem OR.same {w w' : World} {v : Value} {n : Nat} {xs : List Value} (h : OR w v n xs) (hk : ∀ g, v.ownBlock = some g → w'.heap[g]? = w.heap[g]?) : OR w' v n xs := by
  refine ⟨h.1, ?_⟩
  rcases h.2 with hn | ⟨g, off, cap, cur, rfl, hh, h1, h2, h3, h4⟩
  · exact .inl hn
  · have e := hk g rfl
    exact .inr ⟨g, off, cap, cur, rfl, e.trans hh, h1, h2, h3, fun j u hu => (World.cell?_of_block (a := ⟨g, off + j, none⟩) e).trans (h4 j u hu)⟩
theorem OR.kept {S : Nat → Prop} {w w' : World} {v : Value} {n : Nat} {xs : List Value} (h : OR w v n xs) (hk : KB S w w') (hs : ∀ g, v.ownBlock = some g → ¬ S g) : OR w' v n xs :=
  h.same fun g hg => hk.block g (h.lt g hg).1 (hs g hg)
theorem heap_setCells_same (g : Nat) (t : TypeId) : ∀ (vs : List Value) (o : Nat) (w : World) (cur : Array Value), w.heap[g]? = some (.cells cur t (0, 0)) → ∃ cur', (w.setCells g o vs).heap[g]? = some (.cells cur' t (0, 0)) ∧ cur'.size = cur.size
  | [], _, _, cur, h => ⟨cur, h, rfl⟩
  | v :: r, o, w, cur, h => by
    obtain ⟨c', h1, h2⟩ := heap_setCells_same g t r (o + 1) (w.setCell ⟨g, o, none⟩ v) _ (heap_setCell_same w g o cur t v h)
    exact ⟨c', h1, by rw [h2]; simp⟩
theorem there_of {w : World} {g : Nat} {cur : Array Value} {t : TypeId} (hh : w.heap[g]? = some (.cells cur t (0, 0))) (o n : Nat) (h : o + n ≤ cur.size) : w.there g o n := fun j hj => by
  refine ⟨?_, by simp [World.frozen?, hh]⟩
  rw [cell_of_row w g (o + j) cur _ _ hh, Array.getElem?_eq_getElem (by omega)]
  rfl
/-- A row comes behind. -/
theorem run_append_places {w : World} {v : Value} {n : Nat} {xs : List Value} (h : OR w v n xs) (ty : TypeId) (a : Addr) (c : Nat) (x y : Value) (hnews : ∀ j u, [x, y][j]? = some u → w.cell? (a.add j) = some u) (h1 : ∀ u ∈ [x, y], u.oneCell' = true) (hn : n ≤ 1000000) :
    ∃ v' w', (Builtin.append_ #[40, 40] ty #[v, .slice (some a) 1 c]).run Try.prog w = .ok v' w' ∧ OR w' v' (n + 1) (xs ++ [x, y]) ∧ w.grownBy w' v.ownBlock ∧ (v'.ownBlock = v.ownBlock ∨ v'.ownBlock = some w.heap.size) := by
  obtain ⟨i, hi, hz, hs, hb⟩ : ∃ i, Try.prog.info? 30 = some i ∧ i.zero = some (.agg #[.int .i64 0, .int .i64 0]) ∧ i.size = 2 ∧ i.bytes = 16 := by
    have := infoPos2
    cases hq : Try.prog.info? 30 with
    | none => rw [hq] at this; cases this
    | some i => rw [hq] at this; simp at this; exact ⟨i, rfl, this.1, this.2.1, this.2.2⟩
  have ht : Try.prog.underlying 40 = some (.slice 30) := by kernel_rfl
  have hsrc : Src Try.prog i.size 40 (.slice (some a) 1 c) 1 [x, y] w := Src.ofSlice w ht a 1 c [x, y] (by rw [hs]; rfl) hnews h1
  have hxl : (xs ++ [x, y]).length = (n + 1) * 2 := by rw [List.length_append, h.1]; simp; omega
  have grown : ∀ (old : Nat), old < n + 1 → ∀ (row : Option Nat),
      OR (w.drew.alloc (.cells ((xs ++ [x, y]).toArray ++ Builtin.zeroCells (Value.agg #[.int .i64 0, .int .i64 0]).cells (grownCap w (n + 1) old 30 - (n + 1))) 30)) (.slice (some ⟨w.heap.size, 0, none⟩) (n + 1) (grownCap w (n + 1) old 30)) (n + 1) (xs ++ [x, y]) ∧
      w.grownBy (w.drew.alloc (.cells ((xs ++ [x, y]).toArray ++ Builtin.zeroCells (Value.agg #[.int .i64 0, .int .i64 0]).cells (grownCap w (n + 1) old 30 - (n + 1))) 30)) row := by
    intro old ho row
    have hge := grownCap_ge w (n + 1) old 30
    have hcm : grownCap w (n + 1) old 30 ≤ maxLen := grownCap_le_maxLen w (n + 1) old _ (by unfold maxLen; omega)
    have hnew := heap_alloc_new w.drew (.cells ((xs ++ [x, y]).toArray ++ Builtin.zeroCells (Value.agg #[.int .i64 0, .int .i64 0]).cells (grownCap w (n + 1) old 30 - (n + 1))) 30)
    refine ⟨⟨hxl, .inr ⟨w.heap.size, 0, _, _, rfl, hnew, hge, hcm, ?_, fun j u hu => ?_⟩⟩, ⟨rfl, rfl, rfl, by simp, fun k hk _ => heap_alloc_old w.drew _ hk⟩⟩
    · have hc : (Value.agg #[.int .i64 0, .int .i64 0]).cells.size = 2 := rfl
      simp only [Array.size_append, List.size_toArray, size_zeroCells, hc, hxl]
      omega
    · rw [Nat.zero_add]
      have hlt : j < (xs ++ [x, y]).length := (List.getElem?_eq_some_iff.1 hu).1
      refine (cell_of_row _ _ _ _ _ _ hnew).trans ?_
      rw [Array.getElem?_append_left (by simpa using hlt)]
      simpa using hu
  rcases h.2 with ⟨rfl, rfl⟩ | ⟨g, off, cap, cur, rfl, hh, hnc, hcm, hoc, hr⟩
  · have hx : xs = [] := List.eq_nil_of_length_eq_zero (by simpa using h.1)
    subst hx
    have hold : (Builtin.firstCells i.size 0 (.slice none 0 0)).run Try.prog w.drew = .ok ([] : List Value).toArray w.drew := run_firstCells_none w.drew i.size 0 0 0
    have hrun := run_append_grow_src w 40 40 ty 30 i _ ht hi hz none 0 0 [] hold (.slice (some a) 1 c) 1 [x, y] hsrc (by omega) (by omega) (by rw [hb]; decide)
    exact ⟨_, _, hrun, (grown 0 (by omega) none).1, (grown 0 (by omega) _).2, .inr rfl⟩
  · by_cases hroom : n + 1 ≤ cap
    · have hth := there_of hh (off + n * 2) 2 (by omega)
      have hrun := run_append_room_src w 40 40 ty 30 i ht hi g off n cap (.slice (some a) 1 c) 1 [x, y] hsrc hroom (fun j hj => by rw [hs]; exact (hth j hj).1) (fun j hj => by rw [hs]; exact (hth j hj).2)
      rw [hs] at hrun
      obtain ⟨cur', hh', hcs⟩ := heap_setCells_same g 30 [x, y] (off + n * 2) w cur hh
      refine ⟨_, _, hrun, ⟨hxl, .inr ⟨g, off, cap, cur', rfl, hh', hroom, hcm, by rw [hcs]; exact hoc, fun j u hu => ?_⟩⟩, ⟨rfl, rfl, rfl, ?_, fun k hk hne => World.heap_setCells_other w g _ _ hk (fun e => hne (by rw [e]; rfl))⟩, .inl rfl⟩
      · by_cases hj : j < n * 2
        · rw [List.getElem?_append_left (by rw [h.1]; exact hj)] at hu
          exact World.rangeAt_setCells_apart hr g (off + n * 2) [x, y] (.inr (.inl (by rw [h.1]; exact Nat.le_refl _))) j u hu
        · rw [List.getElem?_append_right (by rw [h.1]; omega), h.1] at hu
          have := World.rangeAt_setCells_same w g (off + n * 2) [x, y] hth (j - n * 2) u hu
          rwa [show off + n * 2 + (j - n * 2) = off + j from by omega] at this
      · simp [World.setCells]
    · have hold : (Builtin.firstCells i.size n (.slice (some ⟨g, off, none⟩) n cap)).run Try.prog w.drew = .ok xs.toArray w.drew := by
        refine run_firstCells_some w.drew i.size n ⟨g, off, none⟩ n cap xs (by rw [hs]; exact h.1) (fun j u hu => ?_)
        rw [Addr.add_mid, World.cell?_drew]
        exact hr j u hu
      have hnc' : cap ≤ n := by omega
      have hrun := run_append_grow_src w 40 40 ty 30 i _ ht hi hz (some ⟨g, off, none⟩) n cap xs hold (.slice (some a) 1 c) 1 [x, y] hsrc (by omega) (by omega) (by rw [hb]; exact growslice_fits (by omega) (by omega))
      exact ⟨_, _, hrun, (grown cap (by omega) none).1, (grown cap (by omega) _).2, .inr rfl⟩
theorem step_append_places {ops : Array Oper} {o : Oper} {a : Act} {w : World} {K : Act → World → Prop} {Q : Exit → Act → World → Prop} {E : Prop}
    (hg : o.guard = none) (s x : Operand) (hop : o.op = Op.call { callee := Callee.builtin Builtin.append, args := #[s, x], argTypes := #[40, 40] })
    (v : Value) (n : Nat) (xs : List Value) (hs : a.eval s = v) (hown : OR w v n xs) (ad : Addr) (c : Nat) (u1 u2 : Value) (hx : a.eval x = .slice (some ad) 1 c)
    (hc : ∀ j u, [u1, u2][j]? = some u → w.cell? (ad.add j) = some u) (h1c : ∀ u ∈ [u1, u2], u.oneCell' = true) (b1 : n ≤ 1000000)
    (hK : ∀ v' w', OR w' v' (n + 1) (xs ++ [u1, u2]) → w.grownBy w' v.ownBlock → (v'.ownBlock = v.ownBlock ∨ v'.ownBlock = some w.heap.size) → K (a.put o.dst v') w') :
    if Region.wanted o (yielded ops a.tmps) = true then Oper.wp Try.prog o a w K Q else E := by
  have hw : Region.wanted o (yielded ops a.tmps) = true := by simp [Region.wanted, hg]
  rw [if_pos hw]
  obtain ⟨v', w', hr, h2, h3, h4⟩ := run_append_places hown o.type ad c u1 u2 hc h1c b1
  unfold Oper.wp execOp
  simp only [hop, resolve, invoke, builtin, Sem.run_bind, Sem.run_pure, Result.andThen_ok, List.map_toArray, List.map_cons, List.map_nil, hs, hx, hr]
  exact hK v' w' h2 h3 h4

theorem OR.form {w : World} {v : Value} {n : Nat} {xs : List Value} (h : OR w v (n + 1) xs) : ∃ g off c, v = .slice (some ⟨g, off, none⟩) (n + 1) c ∧ n + 1 ≤ c := by
  rcases h.2 with ⟨_, h0⟩ | ⟨g, off, cap, cur, rfl, _, h1, _⟩
  · omega
  · exact ⟨g, off, cap, rfl, h1⟩
theorem OR.shape {w : World} {v : Value} {n : Nat} {xs : List Value} (h : OR w v n xs) : ∃ A c, v = .slice A n c := by
  rcases h.2 with ⟨rfl, rfl⟩ | ⟨g, off, cap, cur, rfl, _⟩
  · exact ⟨none, 0, rfl⟩
  · exact ⟨_, cap, rfl⟩
theorem OR.cell {w : World} {n g off c : Nat} {xs : List Value} (h : OR w (.slice (some ⟨g, off, none⟩) n c) n xs) {j : Nat} {u : Value} (hu : xs[j]? = some u) : w.cell? ⟨g, off + j, none⟩ = some u ∧ ∀ k, w.frozen? ⟨g, k, none⟩ = false := by
  rcases h.2 with ⟨h0, _⟩ | ⟨g', off', cap, cur, e, hh, _, _, _, hr⟩
  · simp at h0
  · simp only [Value.slice.injEq, Option.some.injEq, Addr.mk.injEq, and_true, true_and] at e
    obtain ⟨⟨rfl, rfl⟩, rfl⟩ := e
    exact ⟨hr j u hu, fun k => by simp [World.frozen?, hh]⟩
theorem OR.tail {w : World} {n g off c : Nat} {a b : Value} {xs : List Value} (h : OR w (.slice (some ⟨g, off, none⟩) (n + 1) c) (n + 1) (a :: b :: xs)) : OR w (.slice (some ⟨g, off + 2, none⟩) n (c - 1)) n xs := by
  rcases h.2 with ⟨h0, _⟩ | ⟨g', off', cap, cur, e, hh, h1, h2, h3, hr⟩
  · simp at h0
  · simp only [Value.slice.injEq, Option.some.injEq, Addr.mk.injEq, and_true, true_and] at e
    obtain ⟨⟨rfl, rfl⟩, rfl⟩ := e
    refine ⟨by have := h.1; simp at this; omega, .inr ⟨g, off + 2, c - 1, cur, rfl, hh, by omega, by omega, by omega, fun j u hu => ?_⟩⟩
    have := hr (j + 2) u (by simpa using hu)
    rwa [show off + (j + 2) = off + 2 + j from by omega] at this

/-- Places, two cells each. -/
def plC : List (Int × Int) → List Value
  | [] => []
  | x :: l => .int .i64 x.1 :: .int .i64 x.2 :: plC l
theorem plC_len : ∀ l, (plC l).length = l.length * 2
  | [] => rfl
  | x :: l => by simp [plC, plC_len l]; omega
theorem plC_app : ∀ (a b : List (Int × Int)), plC (a ++ b) = plC a ++ plC b
  | [], _ => rfl
  | x :: a, b => by simp [plC, plC_app a b]
theorem plC_at : ∀ (l : List (Int × Int)) (i : Nat), i < l.length → (plC l)[i * 2]? = some (.int .i64 (l[i]?.getD (0, 0)).1) ∧ (plC l)[i * 2 + 1]? = some (.int .i64 (l[i]?.getD (0, 0)).2)
  | [], i, h => by simp at h
  | x :: l, 0, _ => ⟨rfl, rfl⟩
  | x :: l, i + 1, h => by
    have := plC_at l i (by simpa using h)
    rw [show (i + 1) * 2 = i * 2 + 1 + 1 by omega]
    simpa [plC] using this
theorem plC_one : ∀ (l : List (Int × Int)), ∀ u ∈ plC l, u.oneCell' = true
  | [], u, h => by simp [plC] at h
  | x :: l, u, h => by
    simp only [plC, List.mem_cons] at h
    rcases h with rfl | rfl | h
    · rfl
    · rfl
    · exact plC_one l u h
theorem plC_set : ∀ (l : List (Int × Int)) (i : Nat) (x : Int × Int), i < l.length → plC (l.set i x) = ((plC l).set (i * 2) (.int .i64 x.1)).set (i * 2 + 1) (.int .i64 x.2)
  | [], i, x, h => by simp at h
  | y :: l, 0, x, _ => rfl
  | y :: l, i + 1, x, h => by
    have := plC_set l i x (by simpa using h)
    rw [show (i + 1) * 2 = i * 2 + 1 + 1 by omega]
    simpa [plC] using this

/-- A store of points lies at D: its points' slice, how many there may be. -/
structure PM (w : World) (D : Nat) (v : Value) (most : Int) (L : List (Int × Int)) : Prop where
  d : w.heap[D]? = some (.cells #[v, .int .i64 most] 58 (0, 0))
  row : OR w v L.length (plC L)
theorem PM.lt {w : World} {D : Nat} {v : Value} {most : Int} {L : List (Int × Int)} (h : PM w D v most L) : D < w.heap.size := (Array.getElem?_eq_some_iff.1 h.d).1
theorem PM.ne {w : World} {D : Nat} {v : Value} {most : Int} {L : List (Int × Int)} (h : PM w D v most L) : ∀ g, v.ownBlock = some g → g ≠ D := fun g hg e => by
  obtain ⟨cur, hc⟩ := (h.row.lt g hg).2
  rw [e, h.d] at hc
  injection hc with hc
  injection hc with _ h1 _
  exact absurd h1 (by decide)
theorem PM.kept {S : Nat → Prop} {w w' : World} {D : Nat} {v : Value} {most : Int} {L : List (Int × Int)} (h : PM w D v most L) (hk : KB S w w') (hD : ¬ S D) (hs : ∀ g, v.ownBlock = some g → ¬ S g) : PM w' D v most L :=
  ⟨(hk.block D h.lt hD).trans h.d, h.row.kept hk hs⟩
theorem PM.past {w w' : World} {D : Nat} {v : Value} {most : Int} {L : List (Int × Int)} (h : PM w D v most L) (hb : Below w.heap.size w w') : PM w' D v most L :=
  h.kept (KB.of_below (S := fun _ => False) hb) id (fun _ _ e => e)
theorem PM.cells {w : World} {D : Nat} {v : Value} {most : Int} {L : List (Int × Int)} (h : PM w D v most L) :
    (w.cell? ⟨D, 0, none⟩ = some v ∧ w.cell? ⟨D, 1, none⟩ = some (.int .i64 most)) ∧ ∀ k, w.frozen? ⟨D, k, none⟩ = false :=
  ⟨⟨cell_of_row _ _ 0 _ _ _ h.d, cell_of_row _ _ 1 _ _ _ h.d⟩, fun k => by simp [World.frozen?, h.d]⟩
theorem PM.set {w : World} {D : Nat} {v v' : Value} {most : Int} {L L' : List (Int × Int)} (h : PM w D v most L) (hr : OR w v' L'.length (plC L')) : PM (w.setCell ⟨D, 0, none⟩ v') D v' most L' := by
  refine ⟨heap_setCell_same w D 0 _ _ v' h.d, hr.kept (KB.set (S := fun i => i = D) 0 v' rfl) fun g hg e => ?_⟩
  obtain ⟨cur, hc⟩ := (hr.lt g hg).2
  rw [e, h.d] at hc
  injection hc with hc
  injection hc with _ h1 _
  exact absurd h1 (by decide)
end Go.Proofs.Ytnkdbpbfapdfeaa
