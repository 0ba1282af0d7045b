/- Rows of cells in memory: a row of one cell, rows that lie somewhere in a block of their own, what a call may turn. -/
import Derived.Test.YtehfejgalemhaaaKa
import Derived.Laws.AppendOwn
import Derived.Laws.AppendOwnNone
import Derived.Deep.AppendSrc
import Derived.Deep.MidRow
import Derived.Deep.Upon
namespace Go.Proofs.Ytehfejgalemhaaa
open Go.RowKit

theorem Try.infoRow : (Try.prog.info? 43).map (fun i => (i.zero, i.size, i.bytes)) = some (some (.agg #[.slice none 0 0, .bool false]), 2, 32) := by kernel_rfl
theorem Try.infoCell : (Try.prog.info? 53).map (fun i => (i.size, i.bytes)) = some (8, 72) := by kernel_rfl

/-- What a call may turn: the blocks S, and what is new. -/
structure KB (S : Nat → Prop) (w w' : World) : Prop where
  os : w'.os = w.os
  tape : w'.tape = w.tape
  output : w'.output = w.output
  size : w.heap.size ≤ w'.heap.size
  block : ∀ i, i < w.heap.size → ¬ S i → w'.heap[i]? = w.heap[i]?
theorem KB.refl (S : Nat → Prop) (w : World) : KB S w w := ⟨rfl, rfl, rfl, Nat.le_refl _, fun _ _ _ => rfl⟩
theorem KB.trans {S S' : Nat → Prop} {w w1 w2 : World} (h : KB S w w1) (h' : KB S' w1 w2) (hs : ∀ i, i < w.heap.size → S' i → S i) : KB S w w2 :=
  ⟨h'.os.trans h.os, h'.tape.trans h.tape, h'.output.trans h.output, Nat.le_trans h.size h'.size, fun i hi hS => (h'.block i (Nat.lt_of_lt_of_le hi h.size) (fun e => hS (hs i hi e))).trans (h.block i hi hS)⟩
theorem KB.of_below {S : Nat → Prop} {w w' : World} (h : Below w.heap.size w w') : KB S w w' := ⟨h.os, h.tape, h.output, h.size, fun i hi _ => h.block i hi⟩
theorem KB.of_grown {S : Nat → Prop} {w w' : World} {row : Option Nat} (h : w.grownBy w' row) (hs : ∀ i, some i = row → S i) : KB S w w' :=
  ⟨h.os, h.tape, h.output, h.size, fun i hi hS => h.block i hi (fun e => hS (hs i e))⟩
theorem KB.set {S : Nat → Prop} {w : World} {b : Nat} (o : Nat) (v : Value) (hs : S b) : KB S w (w.setCell ⟨b, o, none⟩ v) :=
  ⟨rfl, rfl, rfl, by rw [World.size_setCell]; exact Nat.le_refl _, fun i _ hS => heap_setCell_other w ⟨b, o, none⟩ i v (fun e => hS (by rw [e]; exact hs))⟩
theorem KB.to_below {S : Nat → Prop} {w0 w w' : World} (h0 : Below w0.heap.size w0 w) (h : KB S w w') (hs : ∀ i, S i → w0.heap.size ≤ i) : Below w0.heap.size w0 w' :=
  ⟨h.os.trans h0.os, h.tape.trans h0.tape, h.output.trans h0.output, Nat.le_trans h0.size h.size, fun i hi => (h.block i (Nat.lt_of_lt_of_le hi h0.size) (fun e => by have := hs i e; omega)).trans (h0.block i hi)⟩

/-- A cell that shows a number. -/
def cellL (z : Int) : List Value := [.int .i32 z, .string ByteArray.empty, .int .i64 0, .int .i64 0, .int .i64 0, .int .i64 0, .int .i64 0, .int .i64 0]
/-- A row of one cell, the number's, in a block of its own with the property P. -/
def RV (P : Nat → Prop) (w : World) (v1 v2 : Value) (r : Int × Bool) : Prop :=
  ∃ b c cur, v1 = .slice (some ⟨b, 0, none⟩) 1 c ∧ P b ∧ w.heap[b]? = some (.cells cur 53 (0, 0)) ∧ cur.toList.take 8 = cellL r.1 ∧ v2 = .bool r.2
theorem RV.lt {P : Nat → Prop} {w : World} {v1 v2 : Value} {r : Int × Bool} (h : RV P w v1 v2 r) : ∀ b, v1.ownBlock = some b → b < w.heap.size ∧ P b := fun b hb => by
  obtain ⟨b', c, cur, rfl, hP, hh, _⟩ := h
  simp [Value.ownBlock] at hb
  subst hb
  exact ⟨(Array.getElem?_eq_some_iff.1 hh).1, hP⟩
theorem RV.mono {P P' : Nat → Prop} {w : World} {v1 v2 : Value} {r : Int × Bool} (h : RV P w v1 v2 r) (hp : ∀ b, b < w.heap.size → P b → P' b) : RV P' w v1 v2 r := by
  obtain ⟨b', c, cur, h1, hP, hh, h2⟩ := h
  exact ⟨b', c, cur, h1, hp _ (Array.getElem?_eq_some_iff.1 hh).1 hP, hh, h2⟩
/-- No block of cells is among S. -/
def NC (S : Nat → Prop) (P : Nat → Prop) (w : World) : Prop := ∀ i cur, i < w.heap.size → S i → P i → w.heap[i]? ≠ some (.cells cur 53 (0, 0))
theorem RV.kept {P S : Nat → Prop} {w w' : World} {v1 v2 : Value} {r : Int × Bool} (h : RV P w v1 v2 r) (hk : KB S w w') (hn : NC S P w) : RV P w' v1 v2 r := by
  obtain ⟨b, c, cur, h1, hP, hh, h2⟩ := h
  exact ⟨b, c, cur, h1, hP, (hk.block b (Array.getElem?_eq_some_iff.1 hh).1 (fun e => hn b cur (Array.getElem?_eq_some_iff.1 hh).1 e hP hh)).trans hh, h2⟩
theorem RV.past {P : Nat → Prop} {w w' : World} {v1 v2 : Value} {r : Int × Bool} (h : RV P w v1 v2 r) (hb : Below w.heap.size w w') : RV P w' v1 v2 r :=
  h.kept (KB.of_below (S := fun _ => False) hb) (fun _ _ _ e => e.elim)
theorem RV.cells {P : Nat → Prop} {w : World} {v1 v2 : Value} {r : Int × Bool} (h : RV P w v1 v2 r) :
    ∃ b c, v1 = .slice (some ⟨b, 0, none⟩) 1 c ∧ v2 = .bool r.2 ∧ b < w.heap.size ∧ P b ∧ ∀ j u, (cellL r.1)[j]? = some u → w.cell? ⟨b, j, none⟩ = some u ∧ w.frozen? ⟨b, j, none⟩ = false := by
  obtain ⟨b, c, cur, h1, hP, hh, h2, h3⟩ := h
  refine ⟨b, c, h1, h3, (Array.getElem?_eq_some_iff.1 hh).1, hP, fun j u hu => ⟨?_, by simp [World.frozen?, hh]⟩⟩
  rw [cell_of_row w b j cur _ _ hh]
  rw [← h2, List.getElem?_take] at hu
  split at hu
  · simpa using hu
  · cases hu

/-- Rows, two cells each, and what they show. -/
def RS (P : Nat → Prop) (w : World) : List Value → List (Int × Bool) → Prop
  | a :: b :: xs, r :: L => RV P w a b r ∧ RS P w xs L
  | [], [] => True
  | _, _ => False
theorem RS.len {P : Nat → Prop} {w : World} : ∀ {xs : List Value} {L : List (Int × Bool)}, RS P w xs L → xs.length = L.length * 2
  | a :: b :: xs, r :: L, h => by have := RS.len h.2; simp; omega
  | [], [], _ => rfl
  | [], _ :: _, h => h.elim
  | [_], _, h => by cases h
  | _ :: _ :: _, [], h => h.elim
theorem RS.map {P P' : Nat → Prop} {w w' : World} (f : ∀ a b r, RV P w a b r → RV P' w' a b r) : ∀ {xs : List Value} {L : List (Int × Bool)}, RS P w xs L → RS P' w' xs L
  | a :: b :: xs, r :: L, h => ⟨f a b r h.1, RS.map f h.2⟩
  | [], [], _ => trivial
  | [], _ :: _, h => h.elim
  | [_], _, h => by cases h
  | _ :: _ :: _, [], h => h.elim
theorem RS.snoc {P : Nat → Prop} {w : World} {u v : Value} {r : Int × Bool} (hr : RV P w u v r) : ∀ {xs : List Value} {L : List (Int × Bool)}, RS P w xs L → RS P w (xs ++ [u, v]) (L ++ [r])
  | a :: b :: xs, q :: L, h => ⟨h.1, RS.snoc hr h.2⟩
  | [], [], _ => ⟨hr, trivial⟩
  | [], _ :: _, h => h.elim
  | [_], _, h => by cases h
  | _ :: _ :: _, [], h => h.elim
theorem RS.take {P : Nat → Prop} {w : World} : ∀ {xs : List Value} {L : List (Int × Bool)} (n : Nat), RS P w xs L → RS P w (xs.take (n * 2)) (L.take n)
  | a :: b :: xs, r :: L, 0, _ => trivial
  | a :: b :: xs, r :: L, n + 1, h => by
    rw [show (n + 1) * 2 = n * 2 + 1 + 1 from by omega]
    exact ⟨h.1, RS.take n h.2⟩
  | [], [], n, _ => by simp; trivial
  | [], _ :: _, _, h => h.elim
  | [_], _, _, h => by cases h
  | _ :: _ :: _, [], _, h => h.elim
theorem RS.drop {P : Nat → Prop} {w : World} : ∀ {xs : List Value} {L : List (Int × Bool)} (n : Nat), RS P w xs L → RS P w (xs.drop (n * 2)) (L.drop n)
  | a :: b :: xs, r :: L, 0, h => h
  | a :: b :: xs, r :: L, n + 1, h => by
    rw [show (n + 1) * 2 = n * 2 + 1 + 1 from by omega]
    exact RS.drop n h.2
  | [], [], n, _ => by simp; trivial
  | [], _ :: _, _, h => h.elim
  | [_], _, _, h => by cases h
  | _ :: _ :: _, [], _, h => h.elim
theorem RS.at {P : Nat → Prop} {w : World} : ∀ {xs : List Value} {L : List (Int × Bool)} (i : Nat), RS P w xs L → i < L.length → ∃ u v, xs[i * 2]? = some u ∧ xs[i * 2 + 1]? = some v ∧ RV P w u v (L[i]?.getD (0, false))
  | a :: b :: xs, r :: L, 0, h, _ => ⟨a, b, rfl, rfl, h.1⟩
  | a :: b :: xs, r :: L, i + 1, h, hi => by
    obtain ⟨u, v, h1, h2, h3⟩ := RS.at i h.2 (by simpa using hi)
    refine ⟨u, v, ?_, ?_, by simpa using h3⟩
    · rw [show (i + 1) * 2 = i * 2 + 1 + 1 from by omega]; simpa using h1
    · rw [show (i + 1) * 2 + 1 = i * 2 + 1 + 1 + 1 from by omega]; simpa using h2
  | [], [], _, _, hi => by simp at hi
  | [], _ :: _, _, h, _ => h.elim
  | [_], _, _, h, _ => by cases h
  | _ :: _ :: _, [], _, h, _ => h.elim
theorem RS.set {P : Nat → Prop} {w : World} {u v : Value} {q : Int × Bool} (hq : RV P w u v q) : ∀ {xs : List Value} {L : List (Int × Bool)} (i : Nat), RS P w xs L → RS P w ((xs.set (i * 2) u).set (i * 2 + 1) v) (L.set i q)
  | a :: b :: xs, r :: L, 0, h => ⟨hq, h.2⟩
  | a :: b :: xs, r :: L, i + 1, h => by
    have := RS.set hq i h.2
    rw [show (i + 1) * 2 = i * 2 + 1 + 1 from by omega, show i * 2 + 1 + 1 + 1 = (i * 2 + 1) + 1 + 1 from rfl]
    exact ⟨h.1, this⟩
  | [], [], _, _ => by simp; trivial
  | [], _ :: _, _, h => h.elim
  | [_], _, _, h => by cases h
  | _ :: _ :: _, [], _, h => h.elim

/-- Rows that lie from a place on in a block of rows. -/
def OR (w : World) (v : Value) (n : Nat) (xs : List Value) : Prop :=
  xs.length = n * 2 ∧ ((v = .slice none 0 0 ∧ n = 0) ∨ ∃ g off cap cur, v = .slice (some ⟨g, off, none⟩) n cap ∧ w.heap[g]? = some (.cells cur 43 (0, 0)) ∧ n ≤ cap ∧ cap ≤ maxLen ∧ off + cap * 2 ≤ cur.size ∧ w.rangeAt g off xs)
theorem OR.nil (w : World) : OR w (.slice none 0 0) 0 [] := ⟨rfl, .inl ⟨rfl, rfl⟩⟩
theorem OR.lt {w : World} {v : Value} {n : Nat} {xs : List Value} (h : OR w v n xs) : ∀ g, v.ownBlock = some g → g < w.heap.size ∧ ∃ cur, w.heap[g]? = some (.cells cur 43 (0, 0)) := fun g hg => by
  rcases h.2 with ⟨rfl, _⟩ | ⟨g', off, cap, cur, rfl, hh, _⟩
  · simp [Value.ownBlock] at hg
  · simp [Value.ownBlock] at hg
    subst hg
    exact ⟨(Array.getElem?_eq_some_iff.1 hh).1, cur, hh⟩
theorem OR.same {w w' : World} {v : Value} {n : Nat} {xs : List Value} (h : OR w v n xs) (hk : ∀ g, v.ownBlock = some g → w'.heap[g]? = w.heap[g]?) : OR w' v n xs := by
  refine ⟨h.1, ?_⟩
  rcases h.2 with hn | ⟨g, off, cap, cur, rfl, hh, h1, h2, h3, h4⟩
  · exact .inl hn
  · have e := hk g rfl
    exact .inr ⟨g, off, cap, cur, rfl, e.trans hh, h1, h2, h3, fun j u hu => (World.cell?_of_block (a := ⟨g, off + j, none⟩) e).trans (h4 j u hu)⟩
theorem OR.kept {S : Nat → Prop} {w w' : World} {v : Value} {n : Nat} {xs : List Value} (h : OR w v n xs) (hk : KB S w w') (hs : ∀ g, v.ownBlock = some g → ¬ S g) : OR w' v n xs :=
  h.same fun g hg => hk.block g (h.lt g hg).1 (hs g hg)
theorem heap_setCells_same (g : Nat) (t : TypeId) : ∀ (vs : List Value) (o : Nat) (w : World) (cur : Array Value), w.heap[g]? = some (.cells cur t (0, 0)) → ∃ cur', (w.setCells g o vs).heap[g]? = some (.cells cur' t (0, 0)) ∧ cur'.size = cur.size
  | [], _, _, cur, h => ⟨cur, h, rfl⟩
  | v :: r, o, w, cur, h => by
    obtain ⟨c', h1, h2⟩ := heap_setCells_same g t r (o + 1) (w.setCell ⟨g, o, none⟩ v) _ (heap_setCell_same w g o cur t v h)
    exact ⟨c', h1, by rw [h2]; simp⟩
theorem there_of {w : World} {g : Nat} {cur : Array Value} {t : TypeId} (hh : w.heap[g]? = some (.cells cur t (0, 0))) (o n : Nat) (h : o + n ≤ cur.size) : w.there g o n := fun j hj => by
  refine ⟨?_, by simp [World.frozen?, hh]⟩
  rw [cell_of_row w g (o + j) cur _ _ hh, Array.getElem?_eq_getElem (by omega)]
  rfl
/-- A row comes behind. -/
theorem run_append_rows {w : World} {v : Value} {n : Nat} {xs : List Value} (h : OR w v n xs) (ty : TypeId) (a : Addr) (c : Nat) (x y : Value) (hnews : ∀ j u, [x, y][j]? = some u → w.cell? (a.add j) = some u) (h1 : ∀ u ∈ [x, y], u.oneCell' = true) (hn : n ≤ 1000000) :
    ∃ v' w', (Builtin.append_ #[29, 29] ty #[v, .slice (some a) 1 c]).run Try.prog w = .ok v' w' ∧ OR w' v' (n + 1) (xs ++ [x, y]) ∧ w.grownBy w' v.ownBlock ∧ (v'.ownBlock = v.ownBlock ∨ v'.ownBlock = some w.heap.size) := by
  obtain ⟨i, hi, hz, hs, hb⟩ : ∃ i, Try.prog.info? 43 = some i ∧ i.zero = some (.agg #[.slice none 0 0, .bool false]) ∧ i.size = 2 ∧ i.bytes = 32 := by
    have := Try.infoRow
    cases hq : Try.prog.info? 43 with
    | none => rw [hq] at this; cases this
    | some i => rw [hq] at this; simp at this; exact ⟨i, rfl, this.1, this.2.1, this.2.2⟩
  have ht : Try.prog.underlying 29 = some (.slice 43) := by kernel_rfl
  have hsrc : Src Try.prog i.size 29 (.slice (some a) 1 c) 1 [x, y] w := Src.ofSlice w ht a 1 c [x, y] (by rw [hs]; rfl) hnews h1
  have hxl : (xs ++ [x, y]).length = (n + 1) * 2 := by rw [List.length_append, h.1]; simp; omega
  have grown : ∀ (old : Nat), old < n + 1 → ∀ (row : Option Nat),
      OR (w.drew.alloc (.cells ((xs ++ [x, y]).toArray ++ Builtin.zeroCells (Value.agg #[.slice none 0 0, .bool false]).cells (grownCap w (n + 1) old 43 - (n + 1))) 43)) (.slice (some ⟨w.heap.size, 0, none⟩) (n + 1) (grownCap w (n + 1) old 43)) (n + 1) (xs ++ [x, y]) ∧
      w.grownBy (w.drew.alloc (.cells ((xs ++ [x, y]).toArray ++ Builtin.zeroCells (Value.agg #[.slice none 0 0, .bool false]).cells (grownCap w (n + 1) old 43 - (n + 1))) 43)) row := by
    intro old ho row
    have hge := grownCap_ge w (n + 1) old 43
    have hcm : grownCap w (n + 1) old 43 ≤ maxLen := grownCap_le_maxLen w (n + 1) old _ (by unfold maxLen; omega)
    have hnew := heap_alloc_new w.drew (.cells ((xs ++ [x, y]).toArray ++ Builtin.zeroCells (Value.agg #[.slice none 0 0, .bool false]).cells (grownCap w (n + 1) old 43 - (n + 1))) 43)
    refine ⟨⟨hxl, .inr ⟨w.heap.size, 0, _, _, rfl, hnew, hge, hcm, ?_, fun j u hu => ?_⟩⟩, ⟨rfl, rfl, rfl, by simp, fun k hk _ => heap_alloc_old w.drew _ hk⟩⟩
    · have hc : (Value.agg #[.slice none 0 0, .bool false]).cells.size = 2 := rfl
      simp only [Array.size_append, List.size_toArray, size_zeroCells, hc, hxl]
      omega
    · rw [Nat.zero_add]
      have hlt : j < (xs ++ [x, y]).length := (List.getElem?_eq_some_iff.1 hu).1
      refine (cell_of_row _ _ _ _ _ _ hnew).trans ?_
      rw [Array.getElem?_append_left (by simpa using hlt)]
      simpa using hu
  rcases h.2 with ⟨rfl, rfl⟩ | ⟨g, off, cap, cur, rfl, hh, hnc, hcm, hoc, hr⟩
  · have hx : xs = [] := List.eq_nil_of_length_eq_zero (by simpa using h.1)
    subst hx
    have hold : (Builtin.firstCells i.size 0 (.slice none 0 0)).run Try.prog w.drew = .ok ([] : List Value).toArray w.drew := run_firstCells_none w.drew i.size 0 0 0
    have hrun := run_append_grow_src w 29 29 ty 43 i _ ht hi hz none 0 0 [] hold (.slice (some a) 1 c) 1 [x, y] hsrc (by omega) (by omega) (by rw [hb]; decide)
    exact ⟨_, _, hrun, (grown 0 (by omega) none).1, (grown 0 (by omega) _).2, .inr rfl⟩
  · by_cases hroom : n + 1 ≤ cap
    · have hth := there_of hh (off + n * 2) 2 (by omega)
      have hrun := run_append_room_src w 29 29 ty 43 i ht hi g off n cap (.slice (some a) 1 c) 1 [x, y] hsrc hroom (fun j hj => by rw [hs]; exact (hth j hj).1) (fun j hj => by rw [hs]; exact (hth j hj).2)
      rw [hs] at hrun
      obtain ⟨cur', hh', hcs⟩ := heap_setCells_same g 43 [x, y] (off + n * 2) w cur hh
      refine ⟨_, _, hrun, ⟨hxl, .inr ⟨g, off, cap, cur', rfl, hh', hroom, hcm, by rw [hcs]; exact hoc, fun j u hu => ?_⟩⟩, ⟨rfl, rfl, rfl, ?_, fun k hk hne => World.heap_setCells_other w g _ _ hk (fun e => hne (by rw [e]; rfl))⟩, .inl rfl⟩
      · by_cases hj : j < n * 2
        · rw [List.getElem?_append_left (by rw [h.1]; exact hj)] at hu
          exact World.rangeAt_setCells_apart hr g (off + n * 2) [x, y] (.inr (.inl (by rw [h.1]; exact Nat.le_refl _))) j u hu
        · rw [List.getElem?_append_right (by rw [h.1]; omega), h.1] at hu
          have := World.rangeAt_setCells_same w g (off + n * 2) [x, y] hth (j - n * 2) u hu
          rwa [show off + n * 2 + (j - n * 2) = off + j from by omega] at this
      · simp [World.setCells]
    · have hold : (Builtin.firstCells i.size n (.slice (some ⟨g, off, none⟩) n cap)).run Try.prog w.drew = .ok xs.toArray w.drew := by
        refine run_firstCells_some w.drew i.size n ⟨g, off, none⟩ n cap xs (by rw [hs]; exact h.1) (fun j u hu => ?_)
        rw [Addr.add_mid, World.cell?_drew]
        exact hr j u hu
      have hnc' : cap ≤ n := by omega
      have hrun := run_append_grow_src w 29 29 ty 43 i _ ht hi hz (some ⟨g, off, none⟩) n cap xs hold (.slice (some a) 1 c) 1 [x, y] hsrc (by omega) (by omega) (by rw [hb]; exact growslice_fits (by omega) (by omega))
      exact ⟨_, _, hrun, (grown cap (by omega) none).1, (grown cap (by omega) _).2, .inr rfl⟩
end Go.Proofs.Ytehfejgalemhaaa
