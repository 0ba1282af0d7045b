/- Rows of elements of K cells; items and folds. -/
import Derived.Test.YtnnmliblnmijdaaKa
import Derived.Laws.AppendOwn
import Derived.Deep.LoopGhost
import Derived.WalkMore
namespace Go.Proofs.Ytnnmliblnmijdaa
open Go.RowKit

section
variable {α : Type}
/-- The cells of all elements, one behind the other. -/
def rowsV (enc : α → List Value) : List α → List Value
  | [] => []
  | x :: l => enc x ++ rowsV enc l
theorem rowsV_len (enc : α → List Value) (K : Nat) (hK : ∀ x, (enc x).length = K) : ∀ l, (rowsV enc l).length = l.length * K
  | [] => by simp [rowsV]
  | x :: l => by simp [rowsV, hK, rowsV_len enc K hK l, Nat.add_mul]; omega
theorem rowsV_app (enc : α → List Value) (l m : List α) : rowsV enc (l ++ m) = rowsV enc l ++ rowsV enc m := by
  induction l with
  | nil => rfl
  | cons x l ih => simp [rowsV, ih]
theorem rowsV_one (enc : α → List Value) (h1 : ∀ x, ∀ u ∈ enc x, u.oneCell' = true) : ∀ l, ∀ u ∈ rowsV enc l, u.oneCell' = true
  | [], u, h => by cases h
  | x :: l, u, h => by
    rcases List.mem_append.1 h with h | h
    · exact h1 x u h
    · exact rowsV_one enc h1 l u h
theorem rowsV_at (enc : α → List Value) (K : Nat) (hK : ∀ x, (enc x).length = K) : ∀ (l : List α) (i j : Nat) (x : α), l[i]? = some x → j < K → (rowsV enc l)[i * K + j]? = (enc x)[j]?
  | [], i, j, x, h, _ => by simp at h
  | y :: l, 0, j, x, h, hj => by
    obtain rfl : y = x := by simpa using h
    show (enc y ++ rowsV enc l)[0 * K + j]? = _
    rw [Nat.zero_mul, Nat.zero_add, List.getElem?_append_left (by rw [hK]; exact hj)]
  | y :: l, i + 1, j, x, h, hj => by
    have := rowsV_at enc K hK l i j x (by simpa using h) hj
    show (enc y ++ rowsV enc l)[(i + 1) * K + j]? = _
    have e : (i + 1) * K = i * K + K := by rw [Nat.add_mul, Nat.one_mul]
    rw [List.getElem?_append_right (by rw [hK]; omega), hK, show (i + 1) * K + j - K = i * K + j by omega, this]
/-- A slice of elements of K cells reads as a list. -/
def RK (enc : α → List Value) (K : Nat) (w : World) (A : Option Addr) (l : List α) : Prop :=
  l ≠ [] → ∃ b off, A = some ⟨b, off, none⟩ ∧ b < w.heap.size ∧ ∀ (i : Nat) (x : α), l[i]? = some x → ∀ (j : Nat) (u : Value), (enc x)[j]? = some u → w.cell? ⟨b, off + i * K + j, none⟩ = some u
theorem RK.past {enc : α → List Value} {K : Nat} {w w' : World} {A : Option Addr} {l : List α} (h : RK enc K w A l) (hb : Below w.heap.size w w') : RK enc K w' A l := fun hne => by
  obtain ⟨b, off, e, hl, hc⟩ := h hne
  exact ⟨b, off, e, Nat.lt_of_lt_of_le hl hb.size, fun i x hx j u hu => (hb.cell (p := ⟨b, off + i * K + j, none⟩) hl).trans (hc i x hx j u hu)⟩
theorem RK.of_own {enc : α → List Value} {K : Nat} (hK : ∀ x, (enc x).length = K) {w : World} {B n c : Nat} {T : TypeId} {A : Option Addr} {l : List α} (h : w.ownsRow B T K (.slice A n c) n (rowsV enc l)) (hn : n = l.length) : RK enc K w A l := fun hne => by
  subst hn
  rcases h.2 with ⟨_, h0⟩ | ⟨g', cap, cur, e, hb, hh, _, _, _, ht⟩
  · exact absurd (List.eq_nil_of_length_eq_zero h0) hne
  · injection e with e1 _ _
    refine ⟨g', 0, e1, (Array.getElem?_eq_some_iff.1 hh).1, fun i x hx j u hj => ?_⟩
    have hjK : j < K := by have := (List.getElem?_eq_some_iff.1 hj).1; rwa [hK] at this
    have h1 := rowsV_at enc K hK l i j x hx hjK
    rw [hj] at h1
    rw [Nat.zero_add, cell_of_row w g' _ cur _ _ hh]
    rw [← ht, List.getElem?_take] at h1
    split at h1
    · simpa using h1
    · cases h1
theorem RK.news {enc : α → List Value} {K : Nat} (hK : ∀ x, (enc x).length = K) (hK0 : 0 < K) {w : World} {b off : Nat} {l : List α} (h : ∀ (i : Nat) (x : α), l[i]? = some x → ∀ (j : Nat) (u : Value), (enc x)[j]? = some u → w.cell? ⟨b, off + i * K + j, none⟩ = some u) :
    ∀ j u, (rowsV enc l)[j]? = some u → w.cell? ((⟨b, off, none⟩ : Addr).add j) = some u := fun j u hj => by
  have hjl : j < l.length * K := by rw [← rowsV_len enc K hK]; exact (List.getElem?_eq_some_iff.1 hj).1
  have hadd : ((⟨b, off, none⟩ : Addr).add j) = ⟨b, off + j, none⟩ := by
    unfold Addr.add
    by_cases h1 : j = 0 <;> simp [h1]
  rw [hadd]
  have e : j = j / K * K + j % K := by rw [Nat.mul_comm]; exact (Nat.div_add_mod j K).symm
  have hd : j / K < l.length := (Nat.div_lt_iff_lt_mul hK0).2 hjl
  have h1 := rowsV_at enc K hK l (j / K) (j % K) l[j / K] (List.getElem?_eq_getElem hd) (Nat.mod_lt _ hK0)
  rw [← e, hj] at h1
  have h2 := h (j / K) l[j / K] (List.getElem?_eq_getElem hd) (j % K) u h1.symm
  rwa [Nat.add_assoc, ← e] at h2
end
theorem own_pastK {w w' : World} {B : Nat} {e : TypeId} {z : Nat} {v : Value} {n : Nat} {L : List Value} (h : w.ownsRow B e z v n L) (hb : Below w.heap.size w w') : w'.ownsRow B e z v n L :=
  ⟨h.1, h.2.imp id fun ⟨g, cap, cur, a1, a2, a3, a4⟩ => ⟨g, cap, cur, a1, a2, (hb.block g (Array.getElem?_eq_some_iff.1 a3).1).trans a3, a4⟩⟩
theorem own_formK {w : World} {base : Nat} {e : TypeId} {size : Nat} {v : Value} {k : Nat} {xs : List Value} (h : w.ownsRow base e size v k xs) : ∃ A c, v = .slice A k c ∧ k ≤ c := by
  rcases h.2 with ⟨rfl, rfl⟩ | ⟨g, cap, cur, rfl, _, _, h1, _⟩
  · exact ⟨none, 0, rfl, Nat.le_refl _⟩
  · exact ⟨_, cap, rfl, h1⟩
/-- What was below a row's base is so still when it has grown. -/
theorem own_below {w0 w w5 : World} {B : Nat} {e : TypeId} {z : Nat} {v : Value} {n : Nat} {L : List Value} (h : w.ownsRow B e z v n L) (hb : Below B w0 w) (hB : B ≤ w.heap.size) (hg : w.grownBy w5 v.ownBlock) : Below B w0 w5 :=
  hb.grown hg hB fun k e => (h.lt k e).1

/-- What lies as elements is what append copies. -/
theorem RK.lies {α : Type} {enc : α → List Value} {K : Nat} (hK : ∀ x, (enc x).length = K) (hK0 : 0 < K) {w : World} {ad : Addr} {l : List α} (h : RK enc K w (some ad) l) : ∀ (j : Nat) (u : Value), (rowsV enc l)[j]? = some u → w.cell? (ad.add j) = some u := fun j u hj => by
  have hlt := (List.getElem?_eq_some_iff.1 hj).1
  rw [rowsV_len enc K hK] at hlt
  have hne : l ≠ [] := fun e => by rw [e] at hj; simp [rowsV] at hj
  obtain ⟨b, off, e, _, hc⟩ := h hne
  cases e
  have hi : j / K < l.length := Nat.div_lt_of_lt_mul (by rw [Nat.mul_comm]; exact hlt)
  have hx := List.getElem?_eq_getElem hi
  have hm : j % K < K := Nat.mod_lt _ hK0
  have h1 := rowsV_at enc K hK l (j / K) (j % K) _ hx hm
  have e1 : j / K * K + j % K = j := by rw [Nat.mul_comm]; exact Nat.div_add_mod j K
  rw [e1, hj] at h1
  have h2 := hc (j / K) _ hx (j % K) u h1.symm
  have e2 : ((⟨b, off, none⟩ : Addr).add j) = ⟨b, off + j / K * K + j % K, none⟩ := by
    rw [Nat.add_assoc, e1]
    unfold Addr.add
    by_cases h0 : j = 0 <;> simp [h0]
  rw [e2]
  exact h2

theorem belN' (w : World) (n : Nat) : Below w.heap.size w (w.drewN n) := ⟨rfl, rfl, rfl, Nat.le_refl _, fun _ _ => rfl⟩
/-- Three things: an item's (row, number, how many it hides), or a fold's (from, to, number). -/
abbrev T3 := Int × Int × Int
def encI (x : T3) : List Value := [.int .i64 x.1, .int .u64 x.2.1, .int .i64 x.2.2]
def encF (x : T3) : List Value := [.int .i64 x.1, .int .i64 x.2.1, .int .u64 x.2.2]
theorem encI_len (x : T3) : (encI x).length = 3 := rfl
theorem encF_len (x : T3) : (encF x).length = 3 := rfl
theorem encI_one (x : T3) : ∀ u ∈ encI x, u.oneCell' = true := fun u h => by
  simp only [encI, List.mem_cons, List.not_mem_nil, or_false] at h
  rcases h with rfl | rfl | rfl <;> rfl
theorem encF_one (x : T3) : ∀ u ∈ encF x, u.oneCell' = true := fun u h => by
  simp only [encF, List.mem_cons, List.not_mem_nil, or_false] at h
  rcases h with rfl | rfl | rfl <;> rfl
/-- The i-th of a list. -/
abbrev Nth (L : List T3) (i : Nat) : T3 := L[i]?.getD (0, 0, 0)
theorem nth_some {L : List T3} {i : Nat} (h : i < L.length) : L[i]? = some (Nth L i) := by unfold Nth; rw [List.getElem?_eq_getElem h]; rfl
theorem nth_mem {L : List T3} {i : Nat} (h : i < L.length) : Nth L i ∈ L := by
  have := nth_some h
  exact List.mem_of_getElem? this
theorem take_snocT (L : List T3) (k : Nat) (h : k < L.length) : L.take (k + 1) = L.take k ++ [Nth L k] := by
  rw [List.take_succ_eq_append_getElem h]
  unfold Nth
  rw [List.getElem?_eq_getElem h]; rfl
/-- What an item's cells hold, in any later world. -/
theorem RK.it {w : World} {A : Option Addr} {L : List T3} (h : RK encI 3 w A L) (hne : L ≠ []) : ∃ b off, A = some ⟨b, off, none⟩ ∧ ∀ W, Below w.heap.size w W → b < W.heap.size ∧ ∀ i, i < L.length →
    W.cell? ⟨b, off + i * 3, none⟩ = some (.int .i64 (Nth L i).1) ∧ W.cell? ⟨b, off + i * 3 + 1, none⟩ = some (.int .u64 (Nth L i).2.1) ∧ W.cell? ⟨b, off + i * 3 + 2, none⟩ = some (.int .i64 (Nth L i).2.2) := by
  obtain ⟨b, off, e, hl, hc⟩ := h hne
  refine ⟨b, off, e, fun W hb => ?_⟩
  obtain ⟨b', off', e', hl', hc'⟩ := h.past hb hne
  rw [e] at e'
  injection e' with e'
  injection e' with e1 e2 _
  subst e1; subst e2
  refine ⟨hl', fun i hi => ?_⟩
  exact ⟨hc' i _ (nth_some hi) 0 _ rfl, hc' i _ (nth_some hi) 1 _ rfl, hc' i _ (nth_some hi) 2 _ rfl⟩
theorem RK.fd {w : World} {A : Option Addr} {L : List T3} (h : RK encF 3 w A L) (hne : L ≠ []) : ∃ b off, A = some ⟨b, off, none⟩ ∧ ∀ W, Below w.heap.size w W → b < W.heap.size ∧ ∀ i, i < L.length →
    W.cell? ⟨b, off + i * 3, none⟩ = some (.int .i64 (Nth L i).1) ∧ W.cell? ⟨b, off + i * 3 + 1, none⟩ = some (.int .i64 (Nth L i).2.1) ∧ W.cell? ⟨b, off + i * 3 + 2, none⟩ = some (.int .u64 (Nth L i).2.2) := by
  obtain ⟨b, off, e, hl, hc⟩ := h hne
  refine ⟨b, off, e, fun W hb => ?_⟩
  obtain ⟨b', off', e', hl', hc'⟩ := h.past hb hne
  rw [e] at e'
  injection e' with e'
  injection e' with e1 e2 _
  subst e1; subst e2
  refine ⟨hl', fun i hi => ?_⟩
  exact ⟨hc' i _ (nth_some hi) 0 _ rfl, hc' i _ (nth_some hi) 1 _ rfl, hc' i _ (nth_some hi) 2 _ rfl⟩
theorem infoItem : (Try.prog.info? 40).map (fun i => (i.zero, i.size, i.bytes)) = some (some (.agg #[.int .i64 0, .int .u64 0, .int .i64 0]), 3, 24) := by kernel_rfl
theorem infoFold : (Try.prog.info? 48).map (fun i => (i.zero, i.size, i.bytes)) = some (some (.agg #[.int .i64 0, .int .i64 0, .int .u64 0]), 3, 24) := by kernel_rfl
theorem news3 (W : World) (l : List Value) (cs : Array Value) (hcs : cs = l.toArray) (t : TypeId) : ∀ (j : Nat) (u : Value), l[j]? = some u → (W.alloc (.cells cs t)).cell? ((⟨W.heap.size, 0, none⟩ : Addr).add j) = some u := fun j u hj => by
  have hadd : ((⟨W.heap.size, 0, none⟩ : Addr).add j) = ⟨W.heap.size, j, none⟩ := by
    unfold Addr.add
    by_cases h1 : j = 0 <;> simp [h1]
  rw [hadd, cell_of_row _ _ j _ _ _ (heap_alloc_new W _), ← hj, hcs]
  simp

/-- Right folds, from a row on. -/
def rightB (rows : Int) : Int → List T3 → Bool
  | _, [] => true
  | e, f :: l => if f.1 < e ∨ f.2.1 ≤ f.1 ∨ rows < f.2.1 then false else rightB rows f.2.1 l
/-- What the first k folds end at: 0, or the last one's To. -/
def endV (l : List T3) : Nat → Int
  | 0 => 0
  | k + 1 => (Nth l k).2.1
def badAt (rows : Int) (l : List T3) (k : Nat) : Prop := (Nth l k).1 < endV l k ∨ (Nth l k).2.1 ≤ (Nth l k).1 ∨ rows < (Nth l k).2.1
instance (rows : Int) (l : List T3) (k : Nat) : Decidable (badAt rows l k) := by unfold badAt; infer_instance
theorem right_iff (rows : Int) : ∀ (l : List T3) (e : Int), rightB rows e l = true ↔ ∀ k, k < l.length → ¬ ((Nth l k).1 < (if k = 0 then e else endV l k) ∨ (Nth l k).2.1 ≤ (Nth l k).1 ∨ rows < (Nth l k).2.1)
  | [], e => by simp [rightB]
  | f :: l, e => by
    rw [rightB]
    by_cases hf : f.1 < e ∨ f.2.1 ≤ f.1 ∨ rows < f.2.1
    · rw [if_pos hf]
      refine ⟨fun h => (by cases h), fun h => ?_⟩
      exact absurd hf (h 0 (by simp))
    · rw [if_neg hf, right_iff rows l f.2.1]
      refine ⟨fun h k hk => ?_, fun h k hk => ?_⟩
      · cases k with
        | zero => exact hf
        | succ k =>
          have := h k (by simpa using hk)
          cases k with
          | zero => simpa [endV, Nth] using this
          | succ k => simpa [endV, Nth] using this
      · have := h (k + 1) (by simpa using hk)
        cases k with
        | zero => simpa [endV, Nth] using this
        | succ k => simpa [endV, Nth] using this
theorem right_all {rows : Int} {l : List T3} : rightB rows 0 l = true ↔ ∀ k, k < l.length → ¬ badAt rows l k := by
  rw [right_iff]
  refine ⟨fun h k hk => ?_, fun h k hk => ?_⟩
  · have := h k hk
    cases k with
    | zero => simpa [badAt, endV] using this
    | succ k => simpa [badAt] using this
  · have := h k hk
    cases k with
    | zero => simpa [badAt, endV] using this
    | succ k => simpa [badAt] using this

end Go.Proofs.Ytnnmliblnmijdaa
