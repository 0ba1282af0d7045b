/- Plain: each needle's own hits are its places. -/
import Derived.Test.YtdfhbonfjpnifaaL2
namespace Go.Proofs.Ytdfhbonfjpnifaa
open Go.RowKit

def zsN (L : List Nat) : List Int := L.map Int.ofNat
theorem zsN_len (L : List Nat) : (zsN L).length = L.length := by simp [zsN]
theorem zsN_at (L : List Nat) (k : Nat) : (zsN L)[k]?.getD 0 = ((L[k]?.getD 0 : Nat) : Int) := by
  unfold zsN
  rw [List.getElem?_map]
  cases L[k]? <;> rfl
theorem zsN_inj {L M : List Nat} (h : L ≠ M) : zsN L ≠ zsN M := fun e => h (by
  have := congrArg (List.map Int.toNat) e
  simpa [zsN, List.map_map, Function.comp_def] using this)
/-- What was gathered reads as numbers. -/
theorem ri_of {w w' : World} {L : List Nat} {A : Option Addr} {c : Nat} (h : w'.ownsRow w.heap.size 3 1 (.slice A L.length c) L.length (intV L)) : RI w' w'.heap.size A (zsN L) := by
  refine RI.of_own (base := w.heap.size) (n := L.length) (c := c) ?_
  have : (zsN L).map (Value.int .i64) = intV L := by simp [zsN, intV]
  rw [this]
  exact h
theorem ints_as (L M : List Nat) (b : Bool) (hb : decide (L = M) = b) (n n' : Nat) (hn : n = L.length) (hn' : n' = M.length) (hl : n ≤ 1000000000) (A A' : Option Addr) (c c' : Nat) (W : World) (h : RI W W.heap.size A (zsN L)) (h' : RI W W.heap.size A' (zsN M)) :
    Calls Try.prog 22 #[.slice A n c, .slice A' n' c'] W fun e w' => e = .returned (.bool b) ∧ Below W.heap.size W w' := by
  have h1 := ints_any A A' (zsN L) (zsN M) n n' c c' (by rw [zsN_len]; exact hn) (by rw [zsN_len]; exact hn') (by omega) W h h'
  have : intsB (zsN L) (zsN M) = b := by
    rw [← hb]
    unfold intsB
    by_cases e : L = M
    · rw [e]; simp
    · rw [decide_eq_false e, decide_eq_false (zsN_inj e)]
  rwa [this] at h1
theorem ri_base {w' : World} {B n : Nat} {L : List Nat} {A : Option Addr} {c : Nat} (hn : n = L.length) (h : w'.ownsRow B 3 1 (.slice A n c) n (intV L)) : RI w' w'.heap.size A (zsN L) := by
  subst hn
  refine RI.of_own (base := B) (n := L.length) (c := c) ?_
  have : (zsN L).map (Value.int .i64) = intV L := by simp [zsN, intV]
  rw [this]
  exact h
theorem pw_eq : ∀ {l m : List Nat}, l.Pairwise (· < ·) → m.Pairwise (· < ·) → (∀ a, a ∈ l ↔ a ∈ m) → l = m
  | [], [], _, _, _ => rfl
  | [], b :: m, _, _, h => absurd ((h b).2 List.mem_cons_self) (by simp)
  | a :: l, [], _, _, h => absurd ((h a).1 List.mem_cons_self) (by simp)
  | a :: l, b :: m, hl, hm, h => by
    have hl' := List.pairwise_cons.1 hl
    have hm' := List.pairwise_cons.1 hm
    have e : a = b := by
      have h1 := (h a).1 List.mem_cons_self
      have h2 := (h b).2 List.mem_cons_self
      rcases List.mem_cons.1 h1 with h1 | h1
      · exact h1
      · rcases List.mem_cons.1 h2 with h2 | h2
        · exact h2.symm
        · have := hm'.1 a h1
          have := hl'.1 b h2
          omega
    subst e
    congr 1
    refine pw_eq hl'.2 hm'.2 fun x => ⟨fun hx => ?_, fun hx => ?_⟩
    · rcases List.mem_cons.1 ((h x).1 (List.mem_cons_of_mem _ hx)) with e | h1
      · subst e
        exact absurd (hl'.1 x hx) (Nat.lt_irrefl x)
      · exact h1
    · rcases List.mem_cons.1 ((h x).2 (List.mem_cons_of_mem _ hx)) with e | h1
      · subst e
        exact absurd (hm'.1 x hx) (Nat.lt_irrefl x)
      · exact h1
/-- The places of a needle's hits. -/
def ownH (L : List (Nat × Nat)) (i : Nat) : List Nat := (L.filter fun x => x.2 == i).map fun x => x.1
theorem ownH_snoc (L : List (Nat × Nat)) (x : Nat × Nat) (i : Nat) : ownH (L ++ [x]) i = ownH L i ++ if x.2 = i then [x.1] else [] := by
  unfold ownH
  rw [List.filter_append, List.map_append]
  congr 1
  by_cases h : x.2 = i
  · rw [if_pos h]
    simp [h]
  · rw [if_neg h]
    simp [h]
theorem ownH_take (L : List (Nat × Nat)) (k i : Nat) (h : k < L.length) : ownH (L.take (k + 1)) i = ownH (L.take k) i ++ if (L[k]?.getD (0, 0)).2 = i then [(L[k]?.getD (0, 0)).1] else [] := by
  rw [List.take_add_one, List.getElem?_eq_getElem h]
  exact ownH_snoc _ _ _
theorem ownH_le (L : List (Nat × Nat)) (i : Nat) : (ownH L i).length ≤ L.length := by
  unfold ownH
  rw [List.length_map]
  exact List.length_filter_le _ _
theorem ownH_pls (T : List UInt8) (Ns : List (List UInt8)) (hN : Ns.length ≤ 1000) (i : Nat) (hi : i < Ns.length) : ownH (hitsL T Ns) i = pls idL T (nAt Ns i) := by
  refine pw_eq ?_ (pls_pw idL T _) fun a => ?_
  · unfold ownH
    refine List.pairwise_map.2 (List.pairwise_filter.2 ((hU_pw T Ns hN T.length).imp fun {x y} h hx hy => ?_))
    have e1 : x.2 = i := by simpa using hx
    have e2 : y.2 = i := by simpa using hy
    unfold kk at h
    show x.1 < y.1
    omega
  · rw [mem_pls]
    unfold ownH
    rw [List.mem_map]
    constructor
    · rintro ⟨x, hx, rfl⟩
      obtain ⟨h1, h2⟩ := List.mem_filter.1 hx
      have e1 : x.2 = i := by simpa using h2
      have h3 := of_decide_eq_true (mem_hU.1 h1).2.2
      rw [e1] at h3
      exact h3
    · intro h
      have hp := List.length_pos_iff.2 h.1
      have hle := h.2.1
      exact ⟨(a, i), List.mem_filter.2 ⟨mem_hU.2 ⟨by show a < T.length; omega, hi, decide_eq_true h⟩, by simp⟩, rfl⟩
/-- How many hits the first needles have. -/
def smH (L : List (Nat × Nat)) : Nat → Nat
  | 0 => 0
  | i + 1 => smH L i + (ownH L i).length
theorem smH_is (L : List (Nat × Nat)) : ∀ i, smH L i = (L.filter fun x => decide (x.2 < i)).length
  | 0 => by
    rw [List.filter_eq_nil_iff.2 (by simp)]
    rfl
  | i + 1 => by
    show smH L i + (ownH L i).length = _
    rw [smH_is L i]
    unfold ownH
    rw [List.length_map]
    induction L with
    | nil => rfl
    | cons x t ih =>
      rcases Nat.lt_trichotomy x.2 i with h | h | h
      · rw [List.filter_cons_of_pos (by simpa using h), List.filter_cons_of_neg (by simp; omega), List.filter_cons_of_pos (by simp; omega), List.length_cons, List.length_cons]
        omega
      · rw [List.filter_cons_of_neg (by simp; omega), List.filter_cons_of_pos (by simp; omega), List.filter_cons_of_pos (by simp; omega), List.length_cons, List.length_cons]
        omega
      · rw [List.filter_cons_of_neg (by simp; omega), List.filter_cons_of_neg (by simp; omega), List.filter_cons_of_neg (by simp; omega)]
        exact ih
theorem smH_le (L : List (Nat × Nat)) (i : Nat) : smH L i ≤ L.length := by
  rw [smH_is]
  exact List.length_filter_le _ _
theorem smH_all (T : List UInt8) (Ns : List (List UInt8)) : smH (hitsL T Ns) Ns.length = (hitsL T Ns).length := by
  rw [smH_is, List.filter_eq_self.2]
  intro x hx
  have := (mem_hU.1 hx).2.1
  simpa using this

end Go.Proofs.Ytdfhbonfjpnifaa
