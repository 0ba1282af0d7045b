/- Rows of blocks. -/
import Derived.Test.YtfgnlohnalgnpaaJ9
import Derived.Laws.AppendOwn
namespace Go.Proofs.Ytfgnlohnalgnpaa
open Go.RowKit

section
variable {α : Type}
/-- The cells of all elements, one behind the other. -/
def rowsV (enc : α → List Value) : List α → List Value
  | [] => []
  | x :: l => enc x ++ rowsV enc l
theorem rowsV_len (enc : α → List Value) (K : Nat) (hK : ∀ x, (enc x).length = K) : ∀ l, (rowsV enc l).length = l.length * K
  | [] => by simp [rowsV]
  | x :: l => by simp [rowsV, hK, rowsV_len enc K hK l, Nat.add_mul]; omega
theorem rowsV_app (enc : α → List Value) (l m : List α) : rowsV enc (l ++ m) = rowsV enc l ++ rowsV enc m := by
  induction l with
  | nil => rfl
  | cons x l ih => simp [rowsV, ih]
theorem rowsV_one (enc : α → List Value) (h1 : ∀ x, ∀ u ∈ enc x, u.oneCell' = true) : ∀ l, ∀ u ∈ rowsV enc l, u.oneCell' = true
  | [], u, h => by cases h
  | x :: l, u, h => by
    rcases List.mem_append.1 h with h | h
    · exact h1 x u h
    · exact rowsV_one enc h1 l u h
theorem rowsV_at (enc : α → List Value) (K : Nat) (hK : ∀ x, (enc x).length = K) : ∀ (l : List α) (i j : Nat) (x : α), l[i]? = some x → j < K → (rowsV enc l)[i * K + j]? = (enc x)[j]?
  | [], i, j, x, h, _ => by simp at h
  | y :: l, 0, j, x, h, hj => by
    obtain rfl : y = x := by simpa using h
    show (enc y ++ rowsV enc l)[0 * K + j]? = _
    rw [Nat.zero_mul, Nat.zero_add, List.getElem?_append_left (by rw [hK]; exact hj)]
  | y :: l, i + 1, j, x, h, hj => by
    have := rowsV_at enc K hK l i j x (by simpa using h) hj
    show (enc y ++ rowsV enc l)[(i + 1) * K + j]? = _
    have e : (i + 1) * K = i * K + K := by rw [Nat.add_mul, Nat.one_mul]
    rw [List.getElem?_append_right (by rw [hK]; omega), hK, show (i + 1) * K + j - K = i * K + j by omega, this]
/-- A slice of elements of K cells reads as a list. -/
def RK (enc : α → List Value) (K : Nat) (w : World) (A : Option Addr) (l : List α) : Prop :=
  l ≠ [] → ∃ b off, A = some ⟨b, off, none⟩ ∧ b < w.heap.size ∧ ∀ (i : Nat) (x : α), l[i]? = some x → ∀ (j : Nat) (u : Value), (enc x)[j]? = some u → w.cell? ⟨b, off + i * K + j, none⟩ = some u
theorem RK.past {enc : α → List Value} {K : Nat} {w w' : World} {A : Option Addr} {l : List α} (h : RK enc K w A l) (hb : Below w.heap.size w w') : RK enc K w' A l := fun hne => by
  obtain ⟨b, off, e, hl, hc⟩ := h hne
  exact ⟨b, off, e, Nat.lt_of_lt_of_le hl hb.size, fun i x hx j u hu => (hb.cell (p := ⟨b, off + i * K + j, none⟩) hl).trans (hc i x hx j u hu)⟩
theorem RK.of_own {enc : α → List Value} {K : Nat} (hK : ∀ x, (enc x).length = K) {w : World} {B n c : Nat} {T : TypeId} {A : Option Addr} {l : List α} (h : w.ownsRow B T K (.slice A n c) n (rowsV enc l)) (hn : n = l.length) : RK enc K w A l := fun hne => by
  subst hn
  rcases h.2 with ⟨_, h0⟩ | ⟨g', cap, cur, e, hb, hh, _, _, _, ht⟩
  · exact absurd (List.eq_nil_of_length_eq_zero h0) hne
  · injection e with e1 _ _
    refine ⟨g', 0, e1, (Array.getElem?_eq_some_iff.1 hh).1, fun i x hx j u hj => ?_⟩
    have hjK : j < K := by have := (List.getElem?_eq_some_iff.1 hj).1; rwa [hK] at this
    have h1 := rowsV_at enc K hK l i j x hx hjK
    rw [hj] at h1
    rw [Nat.zero_add, cell_of_row w g' _ cur _ _ hh]
    rw [← ht, List.getElem?_take] at h1
    split at h1
    · simpa using h1
    · cases h1
theorem RK.news {enc : α → List Value} {K : Nat} (hK : ∀ x, (enc x).length = K) (hK0 : 0 < K) {w : World} {b off : Nat} {l : List α} (h : ∀ (i : Nat) (x : α), l[i]? = some x → ∀ (j : Nat) (u : Value), (enc x)[j]? = some u → w.cell? ⟨b, off + i * K + j, none⟩ = some u) :
    ∀ j u, (rowsV enc l)[j]? = some u → w.cell? ((⟨b, off, none⟩ : Addr).add j) = some u := fun j u hj => by
  have hjl : j < l.length * K := by rw [← rowsV_len enc K hK]; exact (List.getElem?_eq_some_iff.1 hj).1
  have hadd : ((⟨b, off, none⟩ : Addr).add j) = ⟨b, off + j, none⟩ := by
    unfold Addr.add
    by_cases h1 : j = 0 <;> simp [h1]
  rw [hadd]
  have e : j = j / K * K + j % K := by rw [Nat.mul_comm]; exact (Nat.div_add_mod j K).symm
  have hd : j / K < l.length := (Nat.div_lt_iff_lt_mul hK0).2 hjl
  have h1 := rowsV_at enc K hK l (j / K) (j % K) l[j / K] (List.getElem?_eq_getElem hd) (Nat.mod_lt _ hK0)
  rw [← e, hj] at h1
  have h2 := h (j / K) l[j / K] (List.getElem?_eq_getElem hd) (j % K) u h1.symm
  rwa [Nat.add_assoc, ← e] at h2
end
theorem own_pastK {w w' : World} {B : Nat} {e : TypeId} {z : Nat} {v : Value} {n : Nat} {L : List Value} (h : w.ownsRow B e z v n L) (hb : Below w.heap.size w w') : w'.ownsRow B e z v n L :=
  ⟨h.1, h.2.imp id fun ⟨g, cap, cur, a1, a2, a3, a4⟩ => ⟨g, cap, cur, a1, a2, (hb.block g (Array.getElem?_eq_some_iff.1 a3).1).trans a3, a4⟩⟩
theorem own_formK {w : World} {base : Nat} {e : TypeId} {size : Nat} {v : Value} {k : Nat} {xs : List Value} (h : w.ownsRow base e size v k xs) : ∃ A c, v = .slice A k c ∧ k ≤ c := by
  rcases h.2 with ⟨rfl, rfl⟩ | ⟨g, cap, cur, rfl, _, _, h1, _⟩
  · exact ⟨none, 0, rfl, Nat.le_refl _⟩
  · exact ⟨_, cap, rfl, h1⟩
/-- What was below a row's base is so still when it has grown. -/
theorem own_below {w0 w w5 : World} {B : Nat} {e : TypeId} {z : Nat} {v : Value} {n : Nat} {L : List Value} (h : w.ownsRow B e z v n L) (hb : Below B w0 w) (hB : B ≤ w.heap.size) (hg : w.grownBy w5 v.ownBlock) : Below B w0 w5 :=
  hb.grown hg hB fun k e => (h.lt k e).1

/-- What lies as elements is what append copies. -/
theorem RK.lies {α : Type} {enc : α → List Value} {K : Nat} (hK : ∀ x, (enc x).length = K) (hK0 : 0 < K) {w : World} {ad : Addr} {l : List α} (h : RK enc K w (some ad) l) : ∀ (j : Nat) (u : Value), (rowsV enc l)[j]? = some u → w.cell? (ad.add j) = some u := fun j u hj => by
  have hlt := (List.getElem?_eq_some_iff.1 hj).1
  rw [rowsV_len enc K hK] at hlt
  have hne : l ≠ [] := fun e => by rw [e] at hj; simp [rowsV] at hj
  obtain ⟨b, off, e, _, hc⟩ := h hne
  cases e
  have hi : j / K < l.length := Nat.div_lt_of_lt_mul (by rw [Nat.mul_comm]; exact hlt)
  have hx := List.getElem?_eq_getElem hi
  have hm : j % K < K := Nat.mod_lt _ hK0
  have h1 := rowsV_at enc K hK l (j / K) (j % K) _ hx hm
  have e1 : j / K * K + j % K = j := by rw [Nat.mul_comm]; exact Nat.div_add_mod j K
  rw [e1, hj] at h1
  have h2 := hc (j / K) _ hx (j % K) u h1.symm
  have e2 : ((⟨b, off, none⟩ : Addr).add j) = ⟨b, off + j / K * K + j % K, none⟩ := by
    rw [Nat.add_assoc, e1]
    unfold Addr.add
    by_cases h0 : j = 0 <;> simp [h0]
  rw [e2]
  exact h2


/-- A block, cell by cell. -/
structure Bk where
  id : Int
  ph : Int
  s0 : Int
  s1 : Int
  i0 : Int
  i1 : Int
  o0 : Int
  o1 : Int
  d0 : Int
  d1 : Int
  t0 : Int
  t1 : Int
  code : Int
  has : Bool
  cut : Bool
  dir : ByteArray
  line : ByteArray
deriving Inhabited
def encB (x : Bk) : List Value := [.int .u64 x.id, .int .i64 x.ph, .int .i64 x.s0, .int .i64 x.s1, .int .i64 x.i0, .int .i64 x.i1, .int .i64 x.o0, .int .i64 x.o1, .int .i64 x.d0, .int .i64 x.d1, .int .i64 x.t0, .int .i64 x.t1, .int .i64 x.code, .bool x.has, .bool x.cut, .string x.dir, .string x.line]
theorem encB_len (x : Bk) : (encB x).length = 17 := rfl
/-- The i-th block. -/
abbrev Bt (L : List Bk) (i : Nat) : Bk := L[i]?.getD default
theorem bt_some {L : List Bk} {i : Nat} (h : i < L.length) : L[i]? = some (Bt L i) := by unfold Bt; rw [List.getElem?_eq_getElem h]; rfl
theorem bt_mem {L : List Bk} {i : Nat} (h : i < L.length) : Bt L i ∈ L := List.mem_of_getElem? (bt_some h)
theorem take_snocB (L : List Bk) (k : Nat) (h : k < L.length) : L.take (k + 1) = L.take k ++ [Bt L k] := by
  rw [List.take_succ_eq_append_getElem h]
  unfold Bt
  rw [List.getElem?_eq_getElem h]; rfl
/-- What a block's cells hold. -/
structure BC (w : World) (b o : Nat) (x : Bk) : Prop where
  c0 : w.cell? ⟨b, o, none⟩ = some (.int .u64 x.id)
  c1 : w.cell? ⟨b, o + 1, none⟩ = some (.int .i64 x.ph)
  c2 : w.cell? ⟨b, o + 2, none⟩ = some (.int .i64 x.s0)
  c3 : w.cell? ⟨b, o + 3, none⟩ = some (.int .i64 x.s1)
  c4 : w.cell? ⟨b, o + 4, none⟩ = some (.int .i64 x.i0)
  c5 : w.cell? ⟨b, o + 5, none⟩ = some (.int .i64 x.i1)
  c6 : w.cell? ⟨b, o + 6, none⟩ = some (.int .i64 x.o0)
  c7 : w.cell? ⟨b, o + 7, none⟩ = some (.int .i64 x.o1)
  c8 : w.cell? ⟨b, o + 8, none⟩ = some (.int .i64 x.d0)
  c9 : w.cell? ⟨b, o + 9, none⟩ = some (.int .i64 x.d1)
  c10 : w.cell? ⟨b, o + 10, none⟩ = some (.int .i64 x.t0)
  c11 : w.cell? ⟨b, o + 11, none⟩ = some (.int .i64 x.t1)
  c12 : w.cell? ⟨b, o + 12, none⟩ = some (.int .i64 x.code)
  c13 : w.cell? ⟨b, o + 13, none⟩ = some (.bool x.has)
  c14 : w.cell? ⟨b, o + 14, none⟩ = some (.bool x.cut)
  c15 : w.cell? ⟨b, o + 15, none⟩ = some (.string x.dir)
  c16 : w.cell? ⟨b, o + 16, none⟩ = some (.string x.line)
theorem RK.bk {w : World} {A : Option Addr} {L : List Bk} (h : RK encB 17 w A L) (hne : L ≠ []) : ∃ b off, A = some ⟨b, off, none⟩ ∧ ∀ W, Below w.heap.size w W → b < W.heap.size ∧ ∀ i, i < L.length → BC W b (off + i * 17) (Bt L i) := by
  obtain ⟨b, off, e, hl, hc⟩ := h hne
  refine ⟨b, off, e, fun W hb => ?_⟩
  obtain ⟨b', off', e', hl', hc'⟩ := h.past hb hne
  rw [e] at e'
  injection e' with e'
  injection e' with e1 e2 _
  subst e1; subst e2
  refine ⟨hl', fun i hi => ⟨hc' i _ (bt_some hi) 0 _ rfl, hc' i _ (bt_some hi) 1 _ rfl, hc' i _ (bt_some hi) 2 _ rfl, hc' i _ (bt_some hi) 3 _ rfl, hc' i _ (bt_some hi) 4 _ rfl, hc' i _ (bt_some hi) 5 _ rfl, hc' i _ (bt_some hi) 6 _ rfl, hc' i _ (bt_some hi) 7 _ rfl, hc' i _ (bt_some hi) 8 _ rfl, hc' i _ (bt_some hi) 9 _ rfl, hc' i _ (bt_some hi) 10 _ rfl, hc' i _ (bt_some hi) 11 _ rfl, hc' i _ (bt_some hi) 12 _ rfl, hc' i _ (bt_some hi) 13 _ rfl, hc' i _ (bt_some hi) 14 _ rfl, hc' i _ (bt_some hi) 15 _ rfl, hc' i _ (bt_some hi) 16 _ rfl⟩⟩
/-- The row of a block that is a stop of a kind. -/
def stopV (b : Bk) (k : Int) : Int × Bool :=
  if b.id = 0 then (0, false) else if k = 0 then (b.s0, true) else if k = 1 then (b.o0, decide (b.ph = 3) || decide (b.ph = 4)) else if k = 2 then (b.s0, b.has && !decide (b.code = 0)) else (0, false)
/-- A block in a box. -/
abbrev boxB (x : Bk) : Array Value := #[.int .u64 x.id, .int .i64 x.ph, .int .i64 x.s0, .int .i64 x.s1, .int .i64 x.i0, .int .i64 x.i1, .int .i64 x.o0, .int .i64 x.o1, .int .i64 x.d0, .int .i64 x.d1, .int .i64 x.t0, .int .i64 x.t1, .int .i64 x.code, .bool x.has, .bool x.cut, .string x.dir, .string x.line]
set_option maxRecDepth 100000 in
set_option maxHeartbeats 8000000 in
theorem stop_any (x : Bk) (k : Int) (w : World) :
    Calls Try.prog 35 #[.agg (boxB x), .int .i64 k] w fun e w' => e = .returned (.tuple #[.int .i64 (stopV x k).1, .bool (stopV x k).2]) ∧ Below w.heap.size w w' := by
  have HB := Lib.hid (belA (Below.refl w.heap.size w) (.cells (boxB x) 39))
  have HS : Hid (stopV x k = if x.id = 0 then (0, false) else if k = 0 then (x.s0, true) else if k = 1 then (x.o0, decide (x.ph = 3) || decide (x.ph = 4)) else if k = 2 then (x.s0, x.has && !decide (x.code = 0)) else (0, false)) := Lib.hid rfl
  generalize stopV x k = s at *
  obtain ⟨id, ph, s0, s1, i0, i1, o0, o1, d0, d1, t0, t1, code, has, cut, dir, line⟩ := x
  simp only at HS HB ⊢
  have hs := HS.out
  clear HS
  by_cases hid : id = 0
  · rw [if_pos hid] at hs
    subst hs
    have hb1 : (id == 0) = true := by simpa using hid
    clear hid
    go_enter Try.func35, Try.ntmps35
    go_wp2
    go_ret2
    exact ⟨rfl, HB.out⟩
  · rw [if_neg hid] at hs
    have hb1 : (id == 0) = false := by simpa using hid
    clear hid
    by_cases hk0 : k = 0
    · rw [if_pos hk0] at hs
      subst hs
      have hb2 : (k == 0) = true := by simpa using hk0
      clear hk0
      go_enter Try.func35, Try.ntmps35
      go_wp2
      go_ret2
      exact ⟨rfl, HB.out⟩
    · rw [if_neg hk0] at hs
      have hb2 : (k == 0) = false := by simpa using hk0
      by_cases hk1 : k = 1
      · rw [if_pos hk1] at hs
        have hb3 : (k == 1) = true := by simpa using hk1
        clear hk0 hk1
        by_cases h3 : ph = 3
        · rw [decide_eq_true h3, Bool.true_or] at hs
          subst hs
          have hb4 : (ph == 3) = true := by simpa using h3
          clear h3
          go_enter Try.func35, Try.ntmps35
          go_wp2
          go_quiet (fail)
          go_wp2
          go_ret2
          exact ⟨rfl, bel1 (Below.refl _ _) (belN' _ _)⟩
        · rw [decide_eq_false h3, Bool.false_or] at hs
          have hb4 : (ph == 3) = false := by simpa using h3
          by_cases h4 : ph = 4
          · rw [decide_eq_true h4] at hs
            subst hs
            have hb5 : (ph == 4) = true := by simpa using h4
            clear h3 h4
            go_enter Try.func35, Try.ntmps35
            go_wp2
            go_quiet (fail)
            go_wp2
            go_ret2
            exact ⟨rfl, bel1 (Below.refl _ _) (belN' _ _)⟩
          · rw [decide_eq_false h4] at hs
            subst hs
            have hb5 : (ph == 4) = false := by simpa using h4
            clear h3 h4
            go_enter Try.func35, Try.ntmps35
            go_wp2
            go_quiet (fail)
            go_wp2
            go_ret2
            exact ⟨rfl, bel1 (Below.refl _ _) (belN' _ _)⟩
      · rw [if_neg hk1] at hs
        have hb3 : (k == 1) = false := by simpa using hk1
        by_cases hk2 : k = 2
        · rw [if_pos hk2] at hs
          have hb4 : (k == 2) = true := by simpa using hk2
          clear hk0 hk1 hk2
          cases has with
          | false =>
            rw [Bool.false_and] at hs
            subst hs
            go_enter Try.func35, Try.ntmps35
            go_wp2
            go_quiet (fail)
            go_wp2
            go_ret2
            exact ⟨rfl, bel1 (Below.refl _ _) (belN' _ _)⟩
          | true =>
            rw [Bool.true_and] at hs
            by_cases hc : code = 0
            · rw [decide_eq_true hc] at hs
              subst hs
              have hb5 : (code == 0) = true := by simpa using hc
              have hb6 : (code != 0) = false := by simpa using hc
              clear hc
              go_enter Try.func35, Try.ntmps35
              go_wp2
              go_quiet (fail)
              go_wp2
              go_ret2
              exact ⟨rfl, bel1 (Below.refl _ _) (belN' _ _)⟩
            · rw [decide_eq_false hc] at hs
              subst hs
              have hb5 : (code == 0) = false := by simpa using hc
              have hb6 : (code != 0) = true := by simpa using hc
              clear hc
              go_enter Try.func35, Try.ntmps35
              go_wp2
              go_quiet (fail)
              go_wp2
              go_ret2
              exact ⟨rfl, bel1 (Below.refl _ _) (belN' _ _)⟩
        · rw [if_neg hk2] at hs
          subst hs
          have hb4 : (k == 2) = false := by simpa using hk2
          clear hk0 hk1 hk2
          go_enter Try.func35, Try.ntmps35
          go_wp2
          go_ret2
          exact ⟨rfl, HB.out⟩

end Go.Proofs.Ytfgnlohnalgnpaa
