/- Rows of rows that a call builds: kept, grown, read. -/
import Derived.Test.YtmmkcfjncpcabaaDoorKg
namespace Go.Proofs.YtmmkcfjncpcabaaDoor
open Go.RowKit

theorem own_type {w : World} {B : Nat} {e : TypeId} {z : Nat} {v : Value} {n : Nat} {xs : List Value} (h : w.ownsRow B e z v n xs) {g : Nat} (hg : v.ownBlock = some g) : ∃ cur, w.heap[g]? = some (.cells cur e (0, 0)) := by
  rcases h.2 with ⟨rfl, _⟩ | ⟨g', cap, cur, rfl, _, hh, _⟩
  · simp [Value.ownBlock] at hg
  · simp [Value.ownBlock] at hg
    subst hg
    exact ⟨cur, hh⟩
theorem own_ne_type {w : World} {B B' : Nat} {e e' : TypeId} {z z' : Nat} {v v' : Value} {n n' : Nat} {xs xs' : List Value} (h : w.ownsRow B e z v n xs) (h' : w.ownsRow B' e' z' v' n' xs') (hne : e ≠ e') : v.ownBlock = none ∨ v.ownBlock ≠ v'.ownBlock := by
  cases hv : v.ownBlock with
  | none => exact .inl rfl
  | some g =>
    refine .inr (fun e2 => ?_)
    obtain ⟨c1, h1⟩ := own_type h hv
    obtain ⟨c2, h2⟩ := own_type h' e2.symm
    rw [h1] at h2
    simp at h2
    exact hne h2.2
theorem ne_ii : 48 ≠ 3 := by decide

theorem news2 (W : World) (o : Obj) (v : Value) (t : TypeId) : ∀ (j : Nat) (u : Value), [v][j]? = some u → ((W.alloc o).alloc (.cells #[v] t)).cell? ((⟨W.heap.size + 1, 0, none⟩ : Addr).add j) = some u := by
  have h := news1 (W.alloc o) v t
  rwa [World.size_alloc] at h
/-- Rows of numbers, each in a block below C. -/
structure RW (w : World) (B C : Nat) (L : List (List Int)) (vals : List Value) : Prop where
  len : vals.length = L.length
  row : ∀ i, i < L.length → w.ownsRow B 3 1 (vals[i]?.getD undef) (L[i]?.getD []).length ((L[i]?.getD []).map (Value.int .i64)) ∧ ∀ b, (vals[i]?.getD undef).ownBlock = some b → b < C
theorem RW.mono {w : World} {B C C' : Nat} {L : List (List Int)} {vals : List Value} (h : RW w B C L vals) (hC : C ≤ C') : RW w B C' L vals :=
  ⟨h.len, fun i hi => ⟨(h.row i hi).1, fun b hb => Nat.lt_of_lt_of_le ((h.row i hi).2 b hb) hC⟩⟩
theorem RW.past {w w' : World} {B C : Nat} {L : List (List Int)} {vals : List Value} (h : RW w B C L vals) (hb : Below w.heap.size w w') : RW w' B C L vals :=
  ⟨h.len, fun i hi => ⟨own_past (h.row i hi).1 hb, (h.row i hi).2⟩⟩
/-- A block from C on has been written. -/
theorem RW.keptC {w w' : World} {B C : Nat} {L : List (List Int)} {vals : List Value} {row : Option Nat} (h : RW w B C L vals) (hg : w.grownBy w' row) (hr : ∀ g, row = some g → C ≤ g) : RW w' B C L vals :=
  ⟨h.len, fun i hi => ⟨(h.row i hi).1.kept hg (by
    cases hv : (vals[i]?.getD undef).ownBlock with
    | none => exact .inl rfl
    | some b =>
      refine .inr (fun e => ?_)
      have h1 := (h.row i hi).2 b hv
      have h2 := hr b e.symm
      omega), (h.row i hi).2⟩⟩
/-- A block that is no row of numbers has been written. -/
theorem RW.keptT {w w' : World} {B C : Nat} {L : List (List Int)} {vals : List Value} {g : Nat} {cs : Array Value} {t : TypeId} {fr : Nat × Nat} (h : RW w B C L vals) (hg : w.grownBy w' (some g)) (ht : w.heap[g]? = some (.cells cs t fr)) (hne : t ≠ 3) : RW w' B C L vals :=
  ⟨h.len, fun i hi => ⟨(h.row i hi).1.kept hg (by
    cases hv : (vals[i]?.getD undef).ownBlock with
    | none => exact .inl rfl
    | some b =>
      refine .inr (fun e => ?_)
      obtain ⟨c1, h1⟩ := own_type (h.row i hi).1 hv
      injection e with e
      subst e
      rw [ht] at h1
      simp at h1
      exact hne h1.2.1), (h.row i hi).2⟩⟩
theorem RW.nil (w : World) (B C : Nat) : RW w B C [] [] := ⟨rfl, fun i hi => by simp at hi⟩
theorem RW.snoc {w : World} {B C : Nat} {L : List (List Int)} {vals : List Value} {v : Value} {xs : List Int} (h : RW w B C L vals) (hv : w.ownsRow B 3 1 v xs.length (xs.map (Value.int .i64))) (hC : ∀ b, v.ownBlock = some b → b < C) : RW w B C (L ++ [xs]) (vals ++ [v]) := by
  refine ⟨by simp [h.len], fun i hi => ?_⟩
  have hi' : i < L.length ∨ i = L.length := by simp at hi; omega
  rcases hi' with h1 | h1
  · rw [List.getElem?_append_left h1, List.getElem?_append_left (by rw [h.len]; exact h1)]
    exact h.row i h1
  · subst h1
    have e : (vals ++ [v])[L.length]? = some v := by rw [← h.len]; simp
    rw [e]
    simp only [List.getElem?_concat_length, Option.getD_some]
    exact ⟨hv, hC⟩

theorem own_cap0 {w : World} {B n c : Nat} {A : Option Addr} {e : TypeId} {z : Nat} {xs : List Value} (h : w.ownsRow B e z (.slice A n c) n xs) : n ≤ c := by
  rcases h.2 with ⟨h', h0⟩ | ⟨g', cap, cur, hv, hg, hh, h1, _⟩
  · omega
  · injection hv with _ _ e3
    omega
/-- A row of rows of the call's own reads as rows of numbers. -/
theorem RG.of_rows {w : World} {B C n c : Nat} {A : Option Addr} {L : List (List Int)} {vals : List Value} (h : w.ownsRow B 48 1 (.slice A n c) n vals) (hn : n = L.length) (hr : RW w B C L vals) : RG w w.heap.size A L := fun hne => by
  obtain ⟨A', c', e, hA⟩ := own_form h
  injection e with e1 _ _
  subst e1
  have hpos : 0 < n := by rw [hn]; exact List.length_pos_iff.2 hne
  obtain ⟨g, rfl⟩ := hA hpos
  refine ⟨g, 0, rfl, (h.lt g rfl).2, fun i hi => ?_⟩
  have hrow := (hr.row i hi).1
  obtain ⟨Ai, ci, ei, _⟩ := own_form hrow
  have hvi : vals[i]? = some (.slice Ai (L[i]?.getD []).length ci) := by
    have hl : i < vals.length := by rw [hr.len]; exact hi
    rw [List.getElem?_eq_getElem hl] at ei ⊢
    exact congrArg some ei
  rw [ei] at hrow
  refine ⟨Ai, ci, ?_, RI.of_own hrow, own_cap0 hrow⟩
  rw [Nat.zero_add, h.cellAt i (by omega), hvi]

/-- Rows, the last of which still grows. -/
structure PG (w : World) (B C : Nat) (v : Value) (L : List (List Int)) (vals : List Value) (cur : List Int) (vc : Value) : Prop where
  outer : w.ownsRow B 48 1 v (L.length + 1) (vals ++ [vc])
  rw : RW w B C L vals
  cur : w.ownsRow C 3 1 vc cur.length (cur.map (Value.int .i64))
  le : B ≤ C
theorem PG.past {w w' : World} {B C : Nat} {v : Value} {L : List (List Int)} {vals : List Value} {cur : List Int} {vc : Value} (h : PG w B C v L vals cur vc) (hb : Below w.heap.size w w') : PG w' B C v L vals cur vc :=
  ⟨own_past h.outer hb, h.rw.past hb, own_past h.cur hb, h.le⟩
/-- The outer row's place, and the cell of the last row. -/
theorem PG.slot {w : World} {B C : Nat} {v : Value} {L : List (List Int)} {vals : List Value} {cur : List Int} {vc : Value} (h : PG w B C v L vals cur vc) :
    ∃ g c, v = .slice (some ⟨g, 0, none⟩) (L.length + 1) c ∧ B ≤ g ∧ g < w.heap.size ∧ w.cell? ⟨g, L.length, none⟩ = some vc ∧ w.frozen? ⟨g, L.length, none⟩ = false := by
  have ho := h.outer
  obtain ⟨A, c, rfl, hA⟩ := own_form ho
  obtain ⟨g, rfl⟩ := hA (by omega)
  refine ⟨g, c, rfl, (ho.lt g rfl).1, (ho.lt g rfl).2, ?_, ho.frozenAt _⟩
  rw [ho.cellAt L.length (by omega), ← h.rw.len]
  simp
theorem PG.form {w : World} {B C : Nat} {v : Value} {L : List (List Int)} {vals : List Value} {cur : List Int} {vc : Value} (h : PG w B C v L vals cur vc) : ∃ A c, vc = .slice A cur.length c ∧ (0 < cur.length → ∃ g, A = some ⟨g, 0, none⟩) := own_form h.cur
/-- A cell of the last row is written. -/
theorem PG.stored {w : World} {B C g c cl : Nat} {v : Value} {L : List (List Int)} {vals : List Value} {cur : List Int} (hcl : cl = cur.length) (h : PG w B C v L vals cur (.slice (some ⟨g, 0, none⟩) cl c)) (k : Nat) (u : Int) :
    PG (w.setCell ⟨g, k, none⟩ (.int .i64 u)) B C v L vals (cur.set k u) (.slice (some ⟨g, 0, none⟩) cl c) ∧ w.grownBy (w.setCell ⟨g, k, none⟩ (.int .i64 u)) (some g) ∧ C ≤ g := by
  subst hcl
  have hs := h.cur.stored k (.int .i64 u)
  have hC : C ≤ g := (h.cur.lt g rfl).1
  refine ⟨⟨h.outer.kept hs.2 (own_ne_type h.outer h.cur ne_ii), h.rw.keptC hs.2 (fun g' e => by cases e; exact hC), ?_, h.le⟩, hs.2, hC⟩
  rw [List.length_set, List.map_set]
  exact hs.1
/-- The last row has grown (w5), and is laid in its place (its cell of the outer row). -/
theorem PG.grow {w w5 : World} {B C g c : Nat} {L : List (List Int)} {vals : List Value} {cur cur2 : List Int} {vc v2 : Value} (h : PG w B C (.slice (some ⟨g, 0, none⟩) (L.length + 1) c) L vals cur vc) (hg : w.grownBy w5 vc.ownBlock) (h2 : w5.ownsRow C 3 1 v2 cur2.length (cur2.map (Value.int .i64))) :
    w5.cell? ⟨g, L.length, none⟩ = some vc ∧ w5.frozen? ⟨g, L.length, none⟩ = false ∧ PG (w5.setCell ⟨g, L.length, none⟩ v2) B C (.slice (some ⟨g, 0, none⟩) (L.length + 1) c) L vals cur2 v2 ∧ (∀ {W0 : World}, Below B W0 w → Below B W0 (w5.setCell ⟨g, L.length, none⟩ v2)) := by
  have ho : w5.ownsRow B 48 1 (.slice (some ⟨g, 0, none⟩) (L.length + 1) c) (L.length + 1) (vals ++ [vc]) := h.outer.kept hg (own_ne_type h.outer h.cur ne_ii)
  have hr : RW w5 B C L vals := h.rw.keptC hg (fun g' e => (h.cur.lt g' e).1)
  have hgB : B ≤ g := (h.outer.lt g rfl).1
  obtain ⟨oc, hoc⟩ := own_type ho (g := g) rfl
  have hs := ho.stored L.length v2
  have hset : (vals ++ [vc]).set L.length v2 = vals ++ [v2] := by rw [← h.rw.len]; simp
  refine ⟨?_, ho.frozenAt _, ⟨?_, hr.keptT hs.2 hoc ne_ii, h2.kept hs.2 ?_, h.le⟩, fun hb => ?_⟩
  · rw [ho.cellAt L.length (by omega), ← h.rw.len]
    simp
  · rw [← hset]
    exact hs.1
  · have e : (Value.slice (some (⟨g, 0, none⟩ : Addr)) (L.length + 1) c).ownBlock = some g := rfl
    rw [← e]
    exact own_ne_type h2 ho (fun e => ne_ii e.symm)
  · have hsz : B ≤ w.heap.size := Nat.le_of_lt (Nat.lt_of_le_of_lt hgB (h.outer.lt g rfl).2)
    exact (hb.grown hg hsz (fun k e => Nat.le_trans h.le (h.cur.lt k e).1)).setCell (p := ⟨g, L.length, none⟩) hgB _
/-- The last row is done; another one begins, which lies in the block at w's end. -/
theorem PG.next {w w3 w5 : World} {B C : Nat} {v v2 vn : Value} {L : List (List Int)} {vals : List Value} {cur new : List Int} {vc : Value} (h : PG w B C v L vals cur vc) (hb : Below w.heap.size w w3) (hn : w3.ownsRow w.heap.size 3 1 vn new.length (new.map (Value.int .i64))) (hg : w3.grownBy w5 v.ownBlock)
    (h2 : w5.ownsRow B 48 1 v2 (L.length + 1 + 1) (vals ++ [vc] ++ [vn])) : PG w5 B w.heap.size v2 (L ++ [cur]) (vals ++ [vc]) new vn := by
  have h3 := h.past hb
  have hsz : B ≤ w.heap.size := by
    obtain ⟨g, c, _, h1, h2, _⟩ := h.slot
    omega
  obtain ⟨g, c, hv, _⟩ := h.slot
  have hvb : v.ownBlock = some g := by rw [hv]; rfl
  obtain ⟨oc, hoc⟩ := own_type h3.outer hvb
  rw [hvb] at hg
  have hcC : ∀ b, vc.ownBlock = some b → b < w.heap.size := fun b hb' => (h.cur.lt b hb').2
  have hC : C ≤ w.heap.size ∨ w.heap.size < C := by omega
  have hrw : RW w3 B w.heap.size L vals := ⟨h3.rw.len, fun i hi => ⟨(h3.rw.row i hi).1, fun b hb' => ((h.rw.row i hi).1.lt b hb').2⟩⟩
  refine ⟨by rw [List.length_append]; exact h2, ((hrw.snoc (own_mono h3.cur h.le) hcC).keptT hg hoc ne_ii), hn.kept hg ?_, hsz⟩
  rw [← hvb]
  exact own_ne_type hn h3.outer (fun e => ne_ii e.symm)
/-- All rows, read. -/
theorem PG.all {w : World} {B C : Nat} {v : Value} {L : List (List Int)} {vals : List Value} {cur : List Int} {vc : Value} (h : PG w B C v L vals cur vc) : RW w B w.heap.size (L ++ [cur]) (vals ++ [vc]) :=
  RW.snoc ⟨h.rw.len, fun i hi => ⟨(h.rw.row i hi).1, fun b hb => ((h.rw.row i hi).1.lt b hb).2⟩⟩ (own_mono h.cur h.le) (fun b hb => (h.cur.lt b hb).2)
/-- The first row, of one number. -/
theorem pg_first (w : World) (z : Int) : PG ((w.alloc (.cells #[.int .i64 z] 3)).alloc (.cells #[.slice (some ⟨w.heap.size, 0, none⟩) 1 1] 48)) w.heap.size w.heap.size (.slice (some ⟨w.heap.size + 1, 0, none⟩) 1 1) [] [] [z] (.slice (some ⟨w.heap.size, 0, none⟩) 1 1) := by
  have h1 := World.ownsRow_lit (e := 3) (size := 1) w #[.int .i64 z] 1 (Nat.le_refl _) (by unfold maxLen; omega) rfl
  have h2 := World.ownsRow_lit (e := 48) (size := 1) (w.alloc (.cells #[.int .i64 z] 3)) #[.slice (some ⟨w.heap.size, 0, none⟩) 1 1] 1 (base := w.heap.size) (by simp) (by unfold maxLen; omega) rfl
  simp only [World.size_alloc] at h2
  exact ⟨h2, RW.nil _ _ _, h1.alloc _, Nat.le_refl _⟩

theorem own_cut {w : World} {B m n c g : Nat} {e : TypeId} {xs : List Value} (h : w.ownsRow B e 1 (.slice (some ⟨g, 0, none⟩) n c) n xs) (hm : m ≤ n) : w.ownsRow B e 1 (.slice (some ⟨g, 0, none⟩) m c) m (xs.take m) := by
  rcases h.2 with ⟨h', _⟩ | ⟨g', cap, cur, hv, hg, hh, h1, h2, h3, h4⟩
  · simp at h'
  · simp only [Value.slice.injEq, Option.some.injEq, Addr.mk.injEq, and_true, true_and] at hv
    obtain ⟨e1, e3⟩ := hv
    subst e1; subst e3
    refine ⟨by rw [List.length_take]; have := h.1; omega, .inr ⟨g, c, cur, rfl, hg, hh, Nat.le_trans hm h1, h2, h3, ?_⟩⟩
    rw [← h4, List.take_take, Nat.mul_one, Nat.mul_one, Nat.min_eq_left hm]
theorem own_cap {w : World} {B n c : Nat} {A : Option Addr} {e : TypeId} {z : Nat} {xs : List Value} (h : w.ownsRow B e z (.slice A n c) n xs) : n ≤ c := by
  rcases h.2 with ⟨h', h0⟩ | ⟨g', cap, cur, hv, hg, hh, h1, _⟩
  · omega
  · injection hv with _ _ e3
    omega
theorem RW.take {w : World} {B C : Nat} {L : List (List Int)} {vals : List Value} (h : RW w B C L vals) (m : Nat) : RW w B C (L.take m) (vals.take m) := by
  refine ⟨by simp [h.len], fun i hi => ?_⟩
  have hi' : i < m ∧ i < L.length := by simp at hi; omega
  rw [List.getElem?_take, if_pos hi'.1, List.getElem?_take, if_pos hi'.1]
  exact h.row i hi'.2
theorem RW.set {w : World} {B C : Nat} {L : List (List Int)} {vals : List Value} {v : Value} {xs : List Int} (h : RW w B C L vals) (k : Nat) (hv : w.ownsRow B 3 1 v xs.length (xs.map (Value.int .i64))) (hC : ∀ b, v.ownBlock = some b → b < C) : RW w B C (L.set k xs) (vals.set k v) := by
  refine ⟨by simp [h.len], fun i hi => ?_⟩
  have hi' : i < L.length := by simpa using hi
  rw [List.getElem?_set, List.getElem?_set]
  by_cases hk : k = i
  · subst hk
    rw [if_pos rfl, if_pos rfl, if_pos hi', if_pos (by rw [h.len]; exact hi')]
    exact ⟨hv, hC⟩
  · rw [if_neg hk, if_neg hk]
    exact h.row i hi'
/-- The first k rows cut to eight. -/
def cutR (G : List (List Int)) (k : Nat) : List (List Int) := (G.take k).map (·.take 8) ++ G.drop k
theorem cutR_len (G : List (List Int)) (k : Nat) : (cutR G k).length = G.length := by
  unfold cutR
  simp
  omega
theorem cutR_get (G : List (List Int)) (k : Nat) (h : k < G.length) : (cutR G k)[k]?.getD [] = G[k]?.getD [] := by
  unfold cutR
  rw [List.getElem?_append_right (by simp; omega), List.getElem?_drop]
  simp [Nat.min_eq_left (Nat.le_of_lt h)]
theorem cutR_set (G : List (List Int)) (k : Nat) (h : k < G.length) : (cutR G k).set k ((G[k]?.getD []).take 8) = cutR G (k + 1) := by
  unfold cutR
  rw [List.set_append_right _ _ (by simp; omega)]
  have hl : ((G.take k).map (·.take 8)).length = k := by simp; omega
  rw [hl, Nat.sub_self, List.drop_eq_getElem_cons h, List.set_cons_zero, List.take_succ_eq_append_getElem h, List.map_append, List.getElem?_eq_getElem h]
  simp
theorem cutR_same (G : List (List Int)) (k : Nat) (h : k < G.length) (h8 : (G[k]?.getD []).length ≤ 8) : cutR G k = cutR G (k + 1) := by
  rw [← cutR_set G k h, List.take_of_length_le h8, ← cutR_get G k h]
  apply List.ext_getElem?
  intro i
  rw [List.getElem?_set]
  by_cases hk : k = i
  · subst hk
    rw [if_pos rfl, if_pos (by rw [cutR_len]; exact h), List.getElem?_eq_getElem (by rw [cutR_len]; exact h)]
    rfl
  · rw [if_neg hk]
theorem cutR_end (G : List (List Int)) : cutR G G.length = G.map (·.take 8) := by
  unfold cutR
  simp

end Go.Proofs.YtmmkcfjncpcabaaDoor
