/- The walk of slices.Clone at places. -/
import Derived.Test.YtfjgfmeanehpmaaLn
namespace Go.Proofs.Ytfjgfmeanehpmaa
open Go.RowKit

theorem encPI_one (x : Int × Int) : ∀ u ∈ encPI x, u.oneCell' = true := fun u h => by
  simp only [encPI, List.mem_cons, List.not_mem_nil, or_false] at h
  rcases h with rfl | rfl <;> rfl
theorem encPI_len (x : Int × Int) : (encPI x).length = 2 := rfl
/-- What lies as elements is what append copies. -/
theorem RK.lies {α : Type} {enc : α → List Value} {K : Nat} (hK : ∀ x, (enc x).length = K) (hK0 : 0 < K) {w : World} {ad : Addr} {l : List α} (h : RK enc K w (some ad) l) : ∀ (j : Nat) (u : Value), (rowsV enc l)[j]? = some u → w.cell? (ad.add j) = some u := fun j u hj => by
  have hlt := (List.getElem?_eq_some_iff.1 hj).1
  rw [rowsV_len enc K hK] at hlt
  have hne : l ≠ [] := fun e => by rw [e] at hj; simp [rowsV] at hj
  obtain ⟨b, off, e, _, hc⟩ := h hne
  cases e
  have hi : j / K < l.length := Nat.div_lt_of_lt_mul (by rw [Nat.mul_comm]; exact hlt)
  have hx := List.getElem?_eq_getElem hi
  have hm : j % K < K := Nat.mod_lt _ hK0
  have h1 := rowsV_at enc K hK l (j / K) (j % K) _ hx hm
  have e1 : j / K * K + j % K = j := by rw [Nat.mul_comm]; exact Nat.div_add_mod j K
  rw [e1, hj] at h1
  have h2 := hc (j / K) _ hx (j % K) u h1.symm
  have e2 : ((⟨b, off, none⟩ : Addr).add j) = ⟨b, off + j / K * K + j % K, none⟩ := by
    rw [Nat.add_assoc, e1]
    unfold Addr.add
    by_cases h0 : j = 0 <;> simp [h0]
  rw [e2]
  exact h2
set_option maxRecDepth 100000 in
set_option maxHeartbeats 2000000 in
theorem clonePos_any (A : Option Addr) (l : List (Int × Int)) (n cp : Nat) (hn : n = l.length) (hl : n ≤ 100000) (w : World) (h : RK encPI 2 w A l) :
    Calls Try.prog 42 #[.slice A n cp] w fun e w' => ∃ v, e = .returned v ∧ Below w.heap.size w w' ∧ w'.ownsRow w.heap.size 39 2 v n (rowsV encPI l) := by
  have hne : ∀ (W : World) (a : Option Addr) (n c n' c' : Nat), (binOp .eql 43 (.slice a n c) (.slice none n' c')).run Try.prog W = .ok (.bool a.isNone) W := fun W a n c n' c' => Lib.run_eql_slice_nil W _ _ a n c n' c' Try.underlying43
  cases A with
  | none =>
    have hl0 : l = [] := by
      rcases l with _ | ⟨x, l⟩
      · rfl
      · obtain ⟨b, off, e, _⟩ := h (by simp)
        cases e
    subst hl0
    have hn0 : n = 0 := hn
    subst hn0
    clear h hn
    go_enter Try.func42, Try.ntmps42
    go_wp2
    go_ret
    exact ⟨_, rfl, Below.refl _ _, World.ownsRow_nil _ _ _ _⟩
  | some ad =>
    obtain ⟨i0, hi0, hz0, hz1, hz2⟩ := info_parts infoPos
    have HNEW : Hid (∀ j u, (rowsV encPI l)[j]? = some u → (w.alloc (.cells #[] 39)).cell? (ad.add j) = some u) := Lib.hid fun j u hj => RK.lies encPI_len (by decide) (h.past (belA (Below.refl _ _) (.cells #[] 39))) j u hj
    have HONE := Lib.hid (rowsV_one encPI encPI_one l)
    have hlen : (rowsV encPI l).length = n * 2 := by rw [rowsV_len encPI 2 encPI_len, hn]
    have HLEN := Lib.hid hlen
    have HOWN : Hid ((w.alloc (.cells #[] 39)).ownsRow w.heap.size 39 2 (.slice (some ⟨w.heap.size, 0, none⟩) 0 0) 0 []) := Lib.hid (World.ownsRow_made w #[] 0 (Nat.le_refl _) (by unfold maxLen; omega) rfl)
    have HEND : Hid (∀ w5 v, (w.alloc (.cells #[] 39)).grownBy w5 (some w.heap.size) → w5.ownsRow w.heap.size 39 2 v (0 + n) ([] ++ rowsV encPI l) → Below w.heap.size w w5 ∧ w5.ownsRow w.heap.size 39 2 v n (rowsV encPI l)) := Lib.hid fun w5 v hg ho =>
      ⟨((Below.refl w.heap.size w).alloc (Nat.le_refl _) _).grown hg (by simp) (fun k e => by cases e; exact Nat.le_refl _), by rw [Nat.zero_add] at ho; exact ho⟩
    clear h hn hlen
    generalize rowsV encPI l = cs at *
    go_enter Try.func42, Try.ntmps42
    go_wp2_with (at_builtin; go_must (refine wpList_append_own _ rfl _ _ 43 rfl w.heap.size 39 i0 _ 2 16 Try.underlying43 hi0 hz0 hz1 hz2 rfl (by decide) (.slice (some ⟨w.heap.size, 0, none⟩) 0 0) 0 [] rfl HOWN.out ad n cp cs rfl HLEN.out HNEW.out HONE.out (by unfold maxLen; omega) (by omega) (by simp) ?_; intro v5 w5 hown5 hgrow5 _; have HZ := Lib.hid (HEND.out _ _ hgrow5 hown5); clear hown5 hgrow5))
    go_ret
    exact ⟨_, rfl, HZ.out.1, HZ.out.2⟩
/-- Rows that lie in memory, as they lie there. -/
theorem rr_raw {w : World} {A : Option Addr} {L : List Rw} (h : RR w A L) : ∃ raw : List Raw, raw.length = L.length ∧ RK encW 2 w A raw ∧ ∀ (i : Nat) (r : Raw) (x : Rw), raw[i]? = some r → L[i]? = some x → r.n = x.c.length ∧ r.n ≤ r.c ∧ r.k = x.k ∧ RC w w.heap.size r.A x.c := by
  by_cases hL : L = []
  · subst hL
    exact ⟨[], rfl, fun hne => absurd rfl hne, fun i r x hr => by simp at hr⟩
  · obtain ⟨b, off, e, hl, hc⟩ := h hL
    have hx : ∀ i, ∃ r : Raw, i < L.length → w.cell? ⟨b, off + i * 2, none⟩ = some (.slice r.A r.n r.c) ∧ w.cell? ⟨b, off + i * 2 + 1, none⟩ = some (.bool r.k) ∧ r.n = (Ar L i).c.length ∧ r.n ≤ r.c ∧ r.k = (Ar L i).k ∧ RC w w.heap.size r.A (Ar L i).c := fun i => by
      by_cases hi : i < L.length
      · obtain ⟨Ai, ci, h1, h2, h3, h4⟩ := hc i hi
        exact ⟨⟨Ai, (Ar L i).c.length, ci, (Ar L i).k⟩, fun _ => ⟨h1, h2, rfl, h4, rfl, h3⟩⟩
      · exact ⟨⟨none, 0, 0, false⟩, fun h => absurd h hi⟩
    obtain ⟨F, hF⟩ : ∃ F : Nat → Raw, ∀ i, i < L.length → w.cell? ⟨b, off + i * 2, none⟩ = some (.slice (F i).A (F i).n (F i).c) ∧ w.cell? ⟨b, off + i * 2 + 1, none⟩ = some (.bool (F i).k) ∧ (F i).n = (Ar L i).c.length ∧ (F i).n ≤ (F i).c ∧ (F i).k = (Ar L i).k ∧ RC w w.heap.size (F i).A (Ar L i).c := ⟨fun i => Classical.choose (hx i), fun i => Classical.choose_spec (hx i)⟩
    refine ⟨(List.range L.length).map F, by simp, fun _ => ⟨b, off, e, hl, fun i r hr j u hu => ?_⟩, fun i r x hr hxx => ?_⟩
    · have hi : i < L.length := by
        have := (List.getElem?_eq_some_iff.1 hr).1
        simpa using this
      rw [List.getElem?_map, List.getElem?_range hi] at hr
      cases hr
      obtain ⟨h1, h2, _⟩ := hF i hi
      match j, hu with
      | 0, hu => cases hu; exact h1
      | 1, hu => cases hu; exact h2
      | j + 2, hu => simp [encW] at hu
    · have hi : i < L.length := (List.getElem?_eq_some_iff.1 hxx).1
      rw [List.getElem?_map, List.getElem?_range hi] at hr
      cases hr
      obtain ⟨_, _, h3, h4, h5, h6⟩ := hF i hi
      have ea : Ar L i = x := by unfold Ar; rw [hxx]; rfl
      rw [ea] at h3 h5 h6
      exact ⟨h3, h4, h5, h6⟩
set_option maxRecDepth 100000 in
set_option maxHeartbeats 2000000 in
theorem cloneRow_any (A : Option Addr) (l : List Raw) (n cp : Nat) (hn : n = l.length) (hl : n ≤ 100000) (w : World) (h : RK encW 2 w A l) :
    Calls Try.prog 51 #[.slice A n cp] w fun e w' => ∃ v, e = .returned v ∧ Below w.heap.size w w' ∧ w'.ownsRow w.heap.size 31 2 v n (rowsV encW l) := by
  have hne : ∀ (W : World) (a : Option Addr) (n c n' c' : Nat), (binOp .eql 22 (.slice a n c) (.slice none n' c')).run Try.prog W = .ok (.bool a.isNone) W := fun W a n c n' c' => Lib.run_eql_slice_nil W _ _ a n c n' c' Try.underlying22
  cases A with
  | none =>
    have hl0 : l = [] := by
      rcases l with _ | ⟨x, l⟩
      · rfl
      · obtain ⟨b, off, e, _⟩ := h (by simp)
        cases e
    subst hl0
    have hn0 : n = 0 := hn
    subst hn0
    clear h hn
    go_enter Try.func51, Try.ntmps51
    go_wp2
    go_ret
    exact ⟨_, rfl, Below.refl _ _, World.ownsRow_nil _ _ _ _⟩
  | some ad =>
    obtain ⟨i0, hi0, hz0, hz1, hz2⟩ := info_parts infoRow
    have HNEW : Hid (∀ j u, (rowsV encW l)[j]? = some u → (w.alloc (.cells #[] 31)).cell? (ad.add j) = some u) := Lib.hid fun j u hj => RK.lies encW_len (by decide) (h.past (belA (Below.refl _ _) (.cells #[] 31))) j u hj
    have HONE := Lib.hid (rowsV_one encW encW_one l)
    have hlen : (rowsV encW l).length = n * 2 := by rw [rowsV_len encW 2 encW_len, hn]
    have HLEN := Lib.hid hlen
    have HOWN : Hid ((w.alloc (.cells #[] 31)).ownsRow w.heap.size 31 2 (.slice (some ⟨w.heap.size, 0, none⟩) 0 0) 0 []) := Lib.hid (World.ownsRow_made w #[] 0 (Nat.le_refl _) (by unfold maxLen; omega) rfl)
    have HEND : Hid (∀ w5 v, (w.alloc (.cells #[] 31)).grownBy w5 (some w.heap.size) → w5.ownsRow w.heap.size 31 2 v (0 + n) ([] ++ rowsV encW l) → Below w.heap.size w w5 ∧ w5.ownsRow w.heap.size 31 2 v n (rowsV encW l)) := Lib.hid fun w5 v hg ho =>
      ⟨((Below.refl w.heap.size w).alloc (Nat.le_refl _) _).grown hg (by simp) (fun k e => by cases e; exact Nat.le_refl _), by rw [Nat.zero_add] at ho; exact ho⟩
    clear h hn hlen
    generalize rowsV encW l = cs at *
    go_enter Try.func51, Try.ntmps51
    go_wp2_with (at_builtin; go_must (refine wpList_append_own _ rfl _ _ 22 rfl w.heap.size 31 i0 _ 2 32 Try.underlying22 hi0 hz0 hz1 hz2 rfl (by decide) (.slice (some ⟨w.heap.size, 0, none⟩) 0 0) 0 [] rfl HOWN.out ad n cp cs rfl HLEN.out HNEW.out HONE.out (by unfold maxLen; omega) (by omega) (by simp) ?_; intro v5 w5 hown5 hgrow5 _; have HZ := Lib.hid (HEND.out _ _ hgrow5 hown5); clear hown5 hgrow5))
    go_ret
    exact ⟨_, rfl, HZ.out.1, HZ.out.2⟩
end Go.Proofs.Ytfjgfmeanehpmaa
