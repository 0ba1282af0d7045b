/- Plain: the hits that are still to come, and the needles' places. -/
import Derived.Test.YtjifekdjkjnefaaH2
namespace Go.Proofs.Ytjifekdjkjnefaa
open Go.RowKit

/-- How often a hit is among the needles' places. -/
def cnt (L : List Nd) (a i : Nat) : Nat := (L.map fun x => if x.1 = i ∧ a ∈ x.2 then 1 else 0).sum
def kk (x : Nat × Nat) : Nat := x.1 * 1000 + x.2
/-- The hits R are those of the needles L, in order. -/
structure Rel (L : List Nd) (R : List (Nat × Nat)) : Prop where
  pw : R.Pairwise fun x y => kk x < kk y
  cn : ∀ a i, cnt L a i = if (a, i) ∈ R then 1 else 0
  ok : ∀ x ∈ L, x.2.Pairwise (· < ·) ∧ x.1 < 1000
theorem cnt_pos {a i : Nat} : ∀ {L : List Nd}, 0 < cnt L a i → ∃ x ∈ L, x.1 = i ∧ a ∈ x.2
  | [], h => by simp [cnt] at h
  | y :: t, h => by
    by_cases hy : y.1 = i ∧ a ∈ y.2
    · exact ⟨y, List.mem_cons_self, hy⟩
    · have h1 : 0 < cnt t a i := by
        unfold cnt at h ⊢
        simp only [List.map_cons, List.sum_cons, if_neg hy] at h
        omega
      obtain ⟨x, hx, hxx⟩ := cnt_pos h1
      exact ⟨x, List.mem_cons_of_mem _ hx, hxx⟩
theorem cnt_mem {a i : Nat} : ∀ {L : List Nd} {x : Nd}, x ∈ L → x.1 = i → a ∈ x.2 → 0 < cnt L a i
  | [], x, h, _, _ => by simp at h
  | y :: t, x, h, h1, h2 => by
    unfold cnt
    simp only [List.map_cons, List.sum_cons]
    rcases List.mem_cons.1 h with rfl | h
    · rw [if_pos ⟨h1, h2⟩]
      omega
    · have := cnt_mem (a := a) (i := i) h h1 h2
      unfold cnt at this
      omega
theorem Rel.mem {L : List Nd} {R : List (Nat × Nat)} (h : Rel L R) {a i : Nat} : (a, i) ∈ R ↔ ∃ x ∈ L, x.1 = i ∧ a ∈ x.2 := by
  have hc := h.cn a i
  constructor
  · intro hm
    rw [if_pos hm] at hc
    exact cnt_pos (by omega)
  · rintro ⟨x, hx, h1, h2⟩
    have := cnt_mem hx h1 h2
    by_cases hm : (a, i) ∈ R
    · exact hm
    · rw [if_neg hm] at hc
      omega
theorem Rel.empty {R : List (Nat × Nat)} (h : Rel [] R) : R = [] := by
  match R, h with
  | [], _ => rfl
  | (a, i) :: t, h =>
    obtain ⟨x, hx, _⟩ := h.mem.1 (List.mem_cons_self (a := (a, i)) (l := t))
    simp at hx
theorem key_head {x : Nd} {a : Nat} (hs : x.2.Pairwise (· < ·)) (ha : a ∈ x.2) : kq x ≤ a * 1000 + x.1 := by
  unfold kq
  match hx : x.2, hs, ha with
  | b :: t, hs, ha =>
    have : b ≤ a := by
      rcases List.mem_cons.1 ha with rfl | ha
      · exact Nat.le_refl _
      · exact Nat.le_of_lt ((List.pairwise_cons.1 hs).1 a ha)
    show b * 1000 + x.1 ≤ _
    omega
theorem Rel.top {L : List Nd} {R : List (Nat × Nat)} (h : Rel L R) (hH : HP L.length 0 L) (hL : 0 < L.length) {i a : Nat} {t : List Nat} (h0 : ndAt L 0 = (i, a :: t)) : ∃ R', R = (a, i) :: R' := by
  have hm0 : ndAt L 0 ∈ L := by
    unfold ndAt
    rw [List.getElem?_eq_getElem hL]
    exact List.getElem_mem hL
  have hin : (a, i) ∈ R := h.mem.2 ⟨ndAt L 0, hm0, by rw [h0], by rw [h0]; exact List.mem_cons_self⟩
  have hk0 : ky L 0 = a * 1000 + i := by
    unfold ky kq
    rw [h0]
    rfl
  match R, h, hin with
  | (b, j) :: t', h, hin =>
    rcases List.mem_cons.1 hin with e | hin
    · exact ⟨t', by rw [e]⟩
    · exfalso
      have h1 := (List.pairwise_cons.1 h.pw).1 _ hin
      obtain ⟨x, hx, hx1, hx2⟩ := h.mem.1 (List.mem_cons_self (a := (b, j)) (l := t'))
      obtain ⟨k, hk, rfl⟩ := List.getElem_of_mem hx
      have h2 := hH.least k hk
      have h3 : ky L k = kq L[k] := by
        unfold ky ndAt
        rw [List.getElem?_eq_getElem hk]
        rfl
      have h4 := key_head (h.ok _ hx).1 hx2
      rw [hk0, h3] at h2
      rw [hx1] at h4
      unfold kk at h1
      simp only at h1
      omega
theorem cnt_app (L M : List Nd) (a i : Nat) : cnt (L ++ M) a i = cnt L a i + cnt M a i := by
  unfold cnt
  rw [List.map_append, List.sum_append]
theorem cnt_one (x : Nd) (a i : Nat) : cnt [x] a i = if x.1 = i ∧ a ∈ x.2 then 1 else 0 := by simp [cnt]
theorem cnt_same {L M : List Nd} (h : SameN L M) (a i : Nat) : cnt L a i = cnt M a i := h.2 _
/-- A hit comes off; what is left of its needle is put back, or nothing. -/
theorem Rel.next {L L1 L2 : List Nd} {R' : List (Nat × Nat)} {i a : Nat} {t : List Nat} (h : Rel L ((a, i) :: R')) (h1 : SameN (L1 ++ [(i, a :: t)]) L) (h2 : (t = [] ∧ SameN L2 L1) ∨ SameN L2 (L1 ++ [(i, t)])) : Rel L2 R' := by
  have hpw := List.pairwise_cons.1 h.pw
  have hni : (a, i) ∉ R' := fun hm => Nat.lt_irrefl _ (hpw.1 _ hm)
  have hall : ∀ x ∈ L1 ++ [(i, a :: t)], x.2.Pairwise (· < ·) ∧ x.1 < 1000 := same_all h1 _ h.ok
  have ht := hall (i, a :: t) (by simp)
  have hpt := List.pairwise_cons.1 ht.1
  have hat : a ∉ t := fun hm => Nat.lt_irrefl _ (hpt.1 a hm)
  have hc2 : ∀ b j, cnt L2 b j = cnt L1 b j + if i = j ∧ b ∈ t then 1 else 0 := fun b j => by
    rcases h2 with ⟨rfl, h2⟩ | h2
    · rw [cnt_same h2]
      simp
    · rw [cnt_same h2, cnt_app, cnt_one]
  refine ⟨hpw.2, fun b j => ?_, ?_⟩
  · have e1 := cnt_same h1 b j
    rw [cnt_app, cnt_one, h.cn b j] at e1
    rw [hc2]
    by_cases hba : b = a ∧ j = i
    · obtain ⟨rfl, rfl⟩ := hba
      rw [if_pos (show (b, j) ∈ (b, j) :: R' from List.mem_cons_self), if_pos (show j = j ∧ b ∈ b :: t from ⟨rfl, List.mem_cons_self⟩)] at e1
      rw [if_neg (fun e => hat e.2), if_neg hni]
      omega
    · have m1 : ((b, j) ∈ (a, i) :: R') ↔ (b, j) ∈ R' := by
        rw [List.mem_cons]
        exact ⟨fun e => e.resolve_left (fun e => hba (by injection e with e1 e2; exact ⟨e1, e2⟩)), .inr⟩
      have m2 : (i = j ∧ b ∈ a :: t) ↔ (i = j ∧ b ∈ t) := by
        rw [List.mem_cons]
        exact ⟨fun e => ⟨e.1, e.2.resolve_left (fun e3 => hba ⟨e3, e.1.symm⟩)⟩, fun e => ⟨e.1, .inr e.2⟩⟩
      simp only [m1, m2] at e1
      exact e1
  · rcases h2 with ⟨_, h2⟩ | h2
    · exact same_all h2 _ fun x hx => hall x (by simp [hx])
    · refine same_all h2 _ fun x hx => ?_
      rcases List.mem_append.1 hx with hx | hx
      · exact hall x (by simp [hx])
      · rw [List.mem_singleton.1 hx]
        exact ⟨hpt.2, ht.2⟩
/-- As many as the places of all needles. -/
theorem Rel.len : ∀ {R : List (Nat × Nat)} {L : List Nd}, Rel L R → (L.map fun x => x.2.length).sum = R.length
  | [], L, h => by
    have : ∀ l : List Nd, (∀ x ∈ l, x.2 = []) → (l.map fun x => x.2.length).sum = 0 := by
      intro l
      induction l with
      | nil => intro _; rfl
      | cons y t ih =>
        intro h
        have h1 := ih fun z hz => h z (List.mem_cons_of_mem _ hz)
        have h2 := h y List.mem_cons_self
        simp only [List.map_cons, List.sum_cons, h2, h1]
        rfl
    rw [this L fun x hx => ?_]
    · rfl
    · match hx2 : x.2 with
      | [] => rfl
      | a :: t =>
        have := h.mem.2 ⟨x, hx, rfl, by rw [hx2]; exact List.mem_cons_self⟩
        simp at this
  | (a, i) :: R', L, h => by
    obtain ⟨x, hx, h1, h2⟩ := h.mem.1 (List.mem_cons_self (a := (a, i)) (l := R'))
    obtain ⟨k, hk, rfl⟩ := List.getElem_of_mem hx
    have hat : ndAt L k = L[k] := by
      unfold ndAt
      rw [List.getElem?_eq_getElem hk]
      rfl
    have hpw := List.pairwise_cons.1 h.pw
    have hni : (a, i) ∉ R' := fun hm => Nat.lt_irrefl _ (hpw.1 _ hm)
    have hso := (h.ok _ hx).1
    have hnd : (L[k]).2.Nodup := hso.imp (fun h => Nat.ne_of_lt h)
    have hrel : Rel (L.set k (i, (L[k]).2.erase a)) R' := by
      refine ⟨hpw.2, fun b j => ?_, fun y hy => ?_⟩
      · have e1 := sum_set (fun x => if x.1 = j ∧ b ∈ x.2 then 1 else 0) (i, (L[k]).2.erase a) L k hk
        rw [hat, h1] at e1
        have e2 := h.cn b j
        unfold cnt at e2 ⊢
        rw [e2] at e1
        simp only [hnd.mem_erase_iff] at e1
        by_cases hba : b = a ∧ j = i
        · obtain ⟨rfl, rfl⟩ := hba
          rw [if_pos (show (b, j) ∈ (b, j) :: R' from List.mem_cons_self), if_pos ⟨rfl, h2⟩, if_neg (fun e => e.2.1 rfl)] at e1
          rw [if_neg hni]
          omega
        · have m1 : ((b, j) ∈ (a, i) :: R') ↔ (b, j) ∈ R' := by
            rw [List.mem_cons]
            exact ⟨fun e => e.resolve_left (fun e => hba (by injection e with e1 e2; exact ⟨e1, e2⟩)), .inr⟩
          have m2 : (i = j ∧ b ≠ a ∧ b ∈ (L[k]).2) ↔ (i = j ∧ b ∈ (L[k]).2) := ⟨fun e => ⟨e.1, e.2.2⟩, fun e => ⟨e.1, fun e3 => hba ⟨e3, e.1.symm⟩, e.2⟩⟩
          simp only [m1, m2] at e1
          omega
      · rcases List.mem_or_eq_of_mem_set hy with hy | rfl
        · exact h.ok y hy
        · exact ⟨hso.sublist List.erase_sublist, by have := (h.ok _ hx).2; omega⟩
    have ih := Rel.len hrel
    have e1 := sum_set (fun x => x.2.length) (i, (L[k]).2.erase a) L k hk
    rw [hat, ih] at e1
    have e2 : ((L[k]).2.erase a).length = (L[k]).2.length - 1 := List.length_erase_of_mem h2
    have e3 : 0 < (L[k]).2.length := List.length_pos_of_mem h2
    simp only [e2] at e1
    simp only [List.length_cons]
    omega

end Go.Proofs.Ytjifekdjkjnefaa
