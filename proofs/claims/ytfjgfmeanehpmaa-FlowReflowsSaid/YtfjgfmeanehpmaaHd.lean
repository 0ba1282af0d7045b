/- Rows of elements of K cells, for any elements; the walk of flow.Lines. -/
import Derived.Test.YtfjgfmeanehpmaaHc
import Derived.Laws.AppendOwn
namespace Go.Proofs.Ytfjgfmeanehpmaa
open Go.RowKit

section
variable {α : Type}
/-- The cells of all elements, one behind the other. -/
def rowsV (enc : α → List Value) : List α → List Value
  | [] => []
  | x :: l => enc x ++ rowsV enc l
theorem rowsV_len (enc : α → List Value) (K : Nat) (hK : ∀ x, (enc x).length = K) : ∀ l, (rowsV enc l).length = l.length * K
  | [] => by simp [rowsV]
  | x :: l => by simp [rowsV, hK, rowsV_len enc K hK l, Nat.add_mul]; omega
theorem rowsV_app (enc : α → List Value) (l m : List α) : rowsV enc (l ++ m) = rowsV enc l ++ rowsV enc m := by
  induction l with
  | nil => rfl
  | cons x l ih => simp [rowsV, ih]
theorem rowsV_one (enc : α → List Value) (h1 : ∀ x, ∀ u ∈ enc x, u.oneCell' = true) : ∀ l, ∀ u ∈ rowsV enc l, u.oneCell' = true
  | [], u, h => by cases h
  | x :: l, u, h => by
    rcases List.mem_append.1 h with h | h
    · exact h1 x u h
    · exact rowsV_one enc h1 l u h
theorem rowsV_at (enc : α → List Value) (K : Nat) (hK : ∀ x, (enc x).length = K) : ∀ (l : List α) (i j : Nat) (x : α), l[i]? = some x → j < K → (rowsV enc l)[i * K + j]? = (enc x)[j]?
  | [], i, j, x, h, _ => by simp at h
  | y :: l, 0, j, x, h, hj => by
    obtain rfl : y = x := by simpa using h
    show (enc y ++ rowsV enc l)[0 * K + j]? = _
    rw [Nat.zero_mul, Nat.zero_add, List.getElem?_append_left (by rw [hK]; exact hj)]
  | y :: l, i + 1, j, x, h, hj => by
    have := rowsV_at enc K hK l i j x (by simpa using h) hj
    show (enc y ++ rowsV enc l)[(i + 1) * K + j]? = _
    have e : (i + 1) * K = i * K + K := by rw [Nat.add_mul, Nat.one_mul]
    rw [List.getElem?_append_right (by rw [hK]; omega), hK, show (i + 1) * K + j - K = i * K + j by omega, this]
/-- A slice of elements of K cells reads as a list. -/
def RK (enc : α → List Value) (K : Nat) (w : World) (A : Option Addr) (l : List α) : Prop :=
  l ≠ [] → ∃ b off, A = some ⟨b, off, none⟩ ∧ b < w.heap.size ∧ ∀ (i : Nat) (x : α), l[i]? = some x → ∀ (j : Nat) (u : Value), (enc x)[j]? = some u → w.cell? ⟨b, off + i * K + j, none⟩ = some u
theorem RK.past {enc : α → List Value} {K : Nat} {w w' : World} {A : Option Addr} {l : List α} (h : RK enc K w A l) (hb : Below w.heap.size w w') : RK enc K w' A l := fun hne => by
  obtain ⟨b, off, e, hl, hc⟩ := h hne
  exact ⟨b, off, e, Nat.lt_of_lt_of_le hl hb.size, fun i x hx j u hu => (hb.cell (p := ⟨b, off + i * K + j, none⟩) hl).trans (hc i x hx j u hu)⟩
theorem RK.of_own {enc : α → List Value} {K : Nat} (hK : ∀ x, (enc x).length = K) {w : World} {B n c : Nat} {T : TypeId} {A : Option Addr} {l : List α} (h : w.ownsRow B T K (.slice A n c) n (rowsV enc l)) (hn : n = l.length) : RK enc K w A l := fun hne => by
  subst hn
  rcases h.2 with ⟨_, h0⟩ | ⟨g', cap, cur, e, hb, hh, _, _, _, ht⟩
  · exact absurd (List.eq_nil_of_length_eq_zero h0) hne
  · injection e with e1 _ _
    refine ⟨g', 0, e1, (Array.getElem?_eq_some_iff.1 hh).1, fun i x hx j u hj => ?_⟩
    have hjK : j < K := by have := (List.getElem?_eq_some_iff.1 hj).1; rwa [hK] at this
    have h1 := rowsV_at enc K hK l i j x hx hjK
    rw [hj] at h1
    rw [Nat.zero_add, cell_of_row w g' _ cur _ _ hh]
    rw [← ht, List.getElem?_take] at h1
    split at h1
    · simpa using h1
    · cases h1
theorem RK.news {enc : α → List Value} {K : Nat} (hK : ∀ x, (enc x).length = K) (hK0 : 0 < K) {w : World} {b off : Nat} {l : List α} (h : ∀ (i : Nat) (x : α), l[i]? = some x → ∀ (j : Nat) (u : Value), (enc x)[j]? = some u → w.cell? ⟨b, off + i * K + j, none⟩ = some u) :
    ∀ j u, (rowsV enc l)[j]? = some u → w.cell? ((⟨b, off, none⟩ : Addr).add j) = some u := fun j u hj => by
  have hjl : j < l.length * K := by rw [← rowsV_len enc K hK]; exact (List.getElem?_eq_some_iff.1 hj).1
  have hadd : ((⟨b, off, none⟩ : Addr).add j) = ⟨b, off + j, none⟩ := by
    unfold Addr.add
    by_cases h1 : j = 0 <;> simp [h1]
  rw [hadd]
  have e : j = j / K * K + j % K := by rw [Nat.mul_comm]; exact (Nat.div_add_mod j K).symm
  have hd : j / K < l.length := (Nat.div_lt_iff_lt_mul hK0).2 hjl
  have h1 := rowsV_at enc K hK l (j / K) (j % K) l[j / K] (List.getElem?_eq_getElem hd) (Nat.mod_lt _ hK0)
  rw [← e, hj] at h1
  have h2 := h (j / K) l[j / K] (List.getElem?_eq_getElem hd) (j % K) u h1.symm
  rwa [Nat.add_assoc, ← e] at h2
end
theorem own_pastK {w w' : World} {B : Nat} {e : TypeId} {z : Nat} {v : Value} {n : Nat} {L : List Value} (h : w.ownsRow B e z v n L) (hb : Below w.heap.size w w') : w'.ownsRow B e z v n L :=
  ⟨h.1, h.2.imp id fun ⟨g, cap, cur, a1, a2, a3, a4⟩ => ⟨g, cap, cur, a1, a2, (hb.block g (Array.getElem?_eq_some_iff.1 a3).1).trans a3, a4⟩⟩
theorem own_formK {w : World} {base : Nat} {e : TypeId} {size : Nat} {v : Value} {k : Nat} {xs : List Value} (h : w.ownsRow base e size v k xs) : ∃ A c, v = .slice A k c ∧ k ≤ c := by
  rcases h.2 with ⟨rfl, rfl⟩ | ⟨g, cap, cur, rfl, _, _, h1, _⟩
  · exact ⟨none, 0, rfl, Nat.le_refl _⟩
  · exact ⟨_, cap, rfl, h1⟩
/-- What was below a row's base is so still when it has grown. -/
theorem own_below {w0 w w5 : World} {B : Nat} {e : TypeId} {z : Nat} {v : Value} {n : Nat} {L : List Value} (h : w.ownsRow B e z v n L) (hb : Below B w0 w) (hB : B ≤ w.heap.size) (hg : w.grownBy w5 v.ownBlock) : Below B w0 w5 :=
  hb.grown hg hB fun k e => (h.lt k e).1

/-- Two numbers. -/
def encN (p : Nat × Nat) : List Value := [.int .i64 (p.1 : Int), .int .i64 (p.2 : Int)]
theorem encN_len (p : Nat × Nat) : (encN p).length = 2 := rfl
theorem encN_one (p : Nat × Nat) : ∀ u ∈ encN p, u.oneCell' = true := fun u h => by
  simp only [encN, List.mem_cons, List.not_mem_nil, or_false] at h
  rcases h with rfl | rfl <;> rfl
theorem infoTwo : (Try.prog.info? 27).map (fun i => (i.zero, i.size, i.bytes)) = some (some (.agg #[.int .i64 0, .int .i64 0]), 2, 16) := by kernel_rfl
theorem newsN (W : World) (a b : Nat) (t : TypeId) : ∀ (j : Nat) (u : Value), (encN (a, b))[j]? = some u → (W.alloc (.cells #[.int .i64 (a : Int), .int .i64 (b : Int)] t)).cell? ((⟨W.heap.size, 0, none⟩ : Addr).add j) = some u := fun j u hj => by
  have hadd : ((⟨W.heap.size, 0, none⟩ : Addr).add j) = ⟨W.heap.size, j, none⟩ := by
    unfold Addr.add
    by_cases h1 : j = 0 <;> simp [h1]
  rw [hadd, cell_of_row _ _ j _ _ _ (heap_alloc_new W _), ← hj]
  simp [encN]
theorem offs_snoc : ∀ (s : Nat) (gs : List (List Rw)) (g : List Rw), offs s (gs ++ [g]) = offs s gs ++ [(s + (joinL gs).length, s + (joinL gs).length + g.length)]
  | s, [], g => by simp [offs, joinL]
  | s, x :: gs, g => by
    show (s, s + x.length) :: offs (s + x.length) (gs ++ [g]) = _
    rw [offs_snoc (s + x.length) gs g]
    simp [offs, joinL, Nat.add_assoc]
theorem offs_len : ∀ (s : Nat) (gs : List (List Rw)), (offs s gs).length = gs.length
  | _, [] => rfl
  | s, x :: gs => by simp [offs, offs_len (s + x.length) gs]
theorem joinL_app : ∀ (gs hs : List (List Rw)), joinL (gs ++ hs) = joinL gs ++ joinL hs
  | [], _ => rfl
  | x :: gs, hs => by simp [joinL, joinL_app gs hs]
theorem dropWhile_drop {β : Type} (p : β → Bool) : ∀ t : List β, t.dropWhile p = t.drop (t.takeWhile p).length
  | [] => rfl
  | x :: t => by
    by_cases h : p x = true
    · simp [h, dropWhile_drop p t]
    · simp [h]
/-- What Lines has done so far. -/
def lineAt (L : List Rw) (a : Nat) (ps : List (Nat × Nat)) : Prop := ∃ gs, grp L = gs ++ grp (L.drop a) ∧ a = (joinL gs).length ∧ ps = offs 0 gs
theorem lineAt_start (L : List Rw) : lineAt L 0 [] := ⟨[], rfl, rfl, rfl⟩
theorem lineAt_next {L : List Rw} {a : Nat} {ps : List (Nat × Nat)} (h : lineAt L a ps) (ha : a < L.length) : lineAt L (a + 1 + runK (L.drop (a + 1))) (ps ++ [(a, a + 1 + runK (L.drop (a + 1)))]) := by
  obtain ⟨gs, h1, h2, h3⟩ := h
  have e : L.drop a = L[a] :: L.drop (a + 1) := List.drop_eq_getElem_cons ha
  rw [e, grp_cons] at h1
  have hl : (L[a] :: (L.drop (a + 1)).takeWhile Rw.k).length = 1 + runK (L.drop (a + 1)) := by simp [runK]; omega
  refine ⟨gs ++ [L[a] :: (L.drop (a + 1)).takeWhile Rw.k], ?_, ?_, ?_⟩
  · rw [h1, dropWhile_drop, List.drop_drop, List.append_assoc]
    rfl
  · rw [joinL_app, List.length_append, ← h2]
    simp [joinL, runK]
    omega
  · rw [offs_snoc, h3, ← h2, hl]
    simp
    omega
theorem lineAt_end {L : List Rw} {ps : List (Nat × Nat)} (h : lineAt L L.length ps) : ps = offs 0 (grp L) := by
  obtain ⟨gs, h1, h2, h3⟩ := h
  rw [List.drop_length, grp_nil, List.append_nil] at h1
  rw [h1, h3]
theorem lineAt_len {L : List Rw} {a : Nat} {ps : List (Nat × Nat)} (h : lineAt L a ps) : ps.length ≤ a := by
  obtain ⟨gs, h1, h2, h3⟩ := h
  rw [h3, offs_len, h2]
  have hne : ∀ g ∈ gs, g ≠ [] := fun g hg => grp_mem L g (by rw [h1]; exact List.mem_append_left _ hg)
  clear h1 h2 h3
  induction gs with
  | nil => exact Nat.le_refl _
  | cons g gs ih =>
    have h0 := List.length_pos_iff.2 (hne g (by simp))
    have := ih (fun x hx => hne x (List.mem_cons_of_mem _ hx))
    simp [joinL]
    omega
theorem runK_drop (L : List Rw) (a : Nat) (h : a < L.length) : a + 1 + runK (L.drop (a + 1)) ≤ L.length := by
  have := runK_le (L.drop (a + 1))
  simp at this
  omega
set_option maxRecDepth 100000 in
set_option maxHeartbeats 4000000 in
theorem lines_any (A : Option Addr) (L : List Rw) (n c : Nat) (hn : n = L.length) (hl : n ≤ 1000000000) (hc : n ≤ c) (w : World) (h : RR w A L) :
    Calls Try.prog 12 #[.slice A n c] w fun e w' => ∃ v, e = .returned v ∧ Below w.heap.size w w' ∧ w'.ownsRow w.heap.size 27 2 v (grp L).length (rowsV encN (offs 0 (grp L))) := by
  have HR := Lib.hid h
  have HN := Lib.hid hn
  have HC := Lib.hid hc
  obtain ⟨i0, hi0, hz0, hz1, hz2⟩ := info_parts infoTwo
  clear h hn hc
  go_enter Try.func12, Try.ntmps12
  go_wp2
  go_loopw [3, 4] (fun v q wr => ∃ (a m : Nat) (vo : Value), vo = v ∧ q = .int .i64 a ∧ a ≤ n ∧ m ≤ a ∧ Hid (∃ ps, lineAt L a ps ∧ ps.length = m ∧ wr.ownsRow w.heap.size 27 2 vo m (rowsV encN ps)) ∧ Hid (Below w.heap.size w wr)) (fun _ q _ => n - (intOf q).toNat)
  case atStart => exact ⟨0, 0, _, rfl, rfl, Nat.zero_le _, Nat.le_refl _, Lib.hid ⟨[], lineAt_start L, rfl, World.ownsRow_nil _ _ _ _⟩, Lib.hid (Below.refl _ _)⟩
  case round =>
    obtain ⟨a, m, vo, rfl, rfl, ha, hm, HO, HB⟩ := hrel
    by_cases hlt : a < n
    · have hlti : (a : Int) < n := by omega
      obtain ⟨ps, hla, hpl, hown⟩ := HO.out
      obtain ⟨Ao, co, rfl, _⟩ := own_formK hown
      have hT := Lib.hid (lineEnd_any A L n c a HN.out hl HC.out hlt wr (HR.out.past HB.out))
      have hnx := lineAt_next hla (by have := HN.out; omega)
      have hle := runK_drop L a (by have := HN.out; omega)
      have hlen := lineAt_len hnx
      rw [← HN.out] at hle
      generalize runK (L.drop (a + 1)) = r at *
      obtain ⟨t, ht⟩ : ∃ t, a + 1 + r = t := ⟨_, rfl⟩
      rw [ht] at hnx hle hT hlen
      have hat : a < t := by omega
      have hws := HB.out.size
      have HOWN : Hid (∀ W, Below wr.heap.size wr W → W.ownsRow w.heap.size 27 2 (.slice Ao m co) m (rowsV encN ps)) := Lib.hid fun W hW => own_pastK hown hW
      have HEND : Hid (∀ W w5 v5, Below wr.heap.size wr W → w5.ownsRow w.heap.size 27 2 v5 (m + 1) (rowsV encN ps ++ encN (a, t)) → W.grownBy w5 (Value.slice Ao m co).ownBlock → (∃ ps, lineAt L t ps ∧ ps.length = m + 1 ∧ w5.ownsRow w.heap.size 27 2 v5 (m + 1) (rowsV encN ps)) ∧ Below w.heap.size w w5) := Lib.hid fun W w5 v5 hW h5 hg5 =>
        ⟨⟨_, hnx, by simp [hpl], by rw [rowsV_app]; exact h5⟩, own_below (own_pastK hown hW) (bel0 HB.out hW) (bel0 HB.out hW).size hg5⟩
      clear hla hpl hown hnx ht HO hlen
      generalize rowsV encN ps = os at HOWN HEND
      go_wp2_with (first
        | (go_at_call 30; (with_reducible refine (hT.out).mono ?_); rintro e w1 ⟨rfl, hb⟩; have HB1 := Lib.hid hb; have hsz := hb.size; clear hb)
        | (at_builtin; go_must (refine wpList_append_own _ rfl _ _ 25 rfl w.heap.size 27 i0 _ 2 16 Try.underlying25 hi0 hz0 hz1 hz2 rfl (by decide) (.slice Ao m co) m os rfl (HOWN.out _ (belA HB1.out _)) ⟨w1.heap.size, 0, none⟩ 1 1 (encN (a, t)) rfl rfl (newsN w1 a t _) (encN_one _) (by unfold maxLen; omega) (by omega) (by simp; omega) ?_; intro v5 w5 hown5 hgrow5 _; have HZ := Lib.hid (HEND.out _ _ _ (belA HB1.out _) hown5 hgrow5); clear hown5 hgrow5)))
      go_roundw
      case rel => exact ⟨t, m + 1, _, rfl, rfl, hle, by omega, Lib.hid HZ.out.1, Lib.hid HZ.out.2⟩
      case measure => simp [intOf]; omega
    · obtain rfl : a = n := by omega
      have HE : Hid (wr.ownsRow w.heap.size 27 2 vo (grp L).length (rowsV encN (offs 0 (grp L)))) := Lib.hid (by
        obtain ⟨ps, h1, h2, h3⟩ := HO.out
        rw [HN.out] at h1
        have e := lineAt_end h1
        subst e
        rw [offs_len] at h2
        rw [h2]
        exact h3)
      clear HO
      go_wp2
      go_ret
      exact ⟨_, rfl, HB.out, HE.out⟩
end Go.Proofs.Ytfjgfmeanehpmaa
