/- The points by age, and those in their order: one is the other's, whatever is done. -/
import Derived.Test.YtnkdbpbfapdfeaaDn
import Derived.Test.YtnkdbpbfapdfeaaDo
import Derived.Test.YtnkdbpbfapdfeaaDp
namespace Go.Proofs.Ytnkdbpbfapdfeaa
open Go.RowKit Go.Sort

def leT (x y : Tr) : Prop := lessB y.1 y.2.1 x.1 x.2.1 = false
theorem lessB_t {a b c d : Int} : lessB a b c d = true ↔ a < c ∨ a = c ∧ b < d := by unfold lessB; exact decide_eq_true_iff
theorem lessB_f {a b c d : Int} : lessB a b c d = false ↔ ¬ (a < c ∨ a = c ∧ b < d) := by unfold lessB; exact decide_eq_false_iff_not
theorem insL_perm (p : Tr) : ∀ L, (insL p L).Perm (p :: L)
  | [] => List.Perm.refl _
  | x :: l => by
    unfold insL
    split
    · exact List.Perm.refl _
    · exact ((insL_perm p l).cons x).trans (List.Perm.swap p x l)
theorem insL_sorted (p : Tr) : ∀ L, L.Pairwise leT → (insL p L).Pairwise leT
  | [], _ => List.pairwise_singleton _ _
  | x :: l, h => by
    obtain ⟨h1, h2⟩ := List.pairwise_cons.1 h
    unfold insL
    split
    · rename_i hlt
      refine List.pairwise_cons.2 ⟨fun y hy => ?_, h⟩
      have hlt := lessB_t.1 hlt
      refine lessB_f.2 ?_
      rcases List.mem_cons.1 hy with rfl | hy
      · omega
      · have := lessB_f.1 (h1 y hy)
        omega
    · rename_i hlt
      have hlt : lessB p.1 p.2.1 x.1 x.2.1 = false := by simpa using hlt
      refine List.pairwise_cons.2 ⟨fun y hy => ?_, insL_sorted p l h2⟩
      rcases List.mem_cons.1 ((insL_perm p l).mem_iff.1 hy) with rfl | hy
      · exact hlt
      · exact h1 y hy
/-- The points by age are P; L has them in their order, with their ages, of which next is the last. -/
def Rel (P : List (Int × Int)) (L : List Tr) (next : Nat) : Prop :=
  ∃ Z : List Tr, Z.map atT = P ∧ (Z.map fun z => z.2.2).Pairwise (· < ·) ∧ (∀ z ∈ Z, 1 ≤ z.2.2 ∧ z.2.2 ≤ (next : Int)) ∧ L.Perm Z ∧ L.Pairwise leT
theorem Rel.len {P : List (Int × Int)} {L : List Tr} {next : Nat} (h : Rel P L next) : L.length = P.length := by
  obtain ⟨Z, rfl, _, _, hp, _⟩ := h
  rw [List.length_map, hp.length_eq]
theorem Rel.nil : Rel [] [] 0 := ⟨[], rfl, List.Pairwise.nil, fun z hz => (by cases hz), List.Perm.refl _, List.Pairwise.nil⟩
/-- Two lists of the same places in order are one. -/
theorem sorted_one : ∀ (l1 l2 : List (Int × Int)), l1.Perm l2 → l1.Pairwise (fun a b => lessB b.1 b.2 a.1 a.2 = false) → l2.Pairwise (fun a b => lessB b.1 b.2 a.1 a.2 = false) → l1 = l2
  | [], l2, hp, _, _ => (hp.symm.eq_nil).symm
  | a :: l1, [], hp, _, _ => by cases hp.eq_nil
  | a :: l1, b :: l2, hp, h1, h2 => by
    obtain ⟨p1, q1⟩ := List.pairwise_cons.1 h1
    obtain ⟨p2, q2⟩ := List.pairwise_cons.1 h2
    have e : a = b := by
      have ha := hp.mem_iff.1 (List.mem_cons_self (a := a) (l := l1))
      have hb := hp.mem_iff.2 (List.mem_cons_self (a := b) (l := l2))
      rcases List.mem_cons.1 ha with e | ha
      · exact e
      rcases List.mem_cons.1 hb with e | hb
      · exact e.symm
      have x1 := lessB_f.1 (p1 b hb)
      have x2 := lessB_f.1 (p2 a ha)
      obtain ⟨a1, a2⟩ := a
      obtain ⟨b1, b2⟩ := b
      simp only at x1 x2
      simp only [Prod.mk.injEq]
      omega
    subst e
    rw [sorted_one l1 l2 (List.Perm.cons_inv hp) q1 q2]
theorem Rel.list {P : List (Int × Int)} {L : List Tr} {next : Nat} (h : Rel P L next) : L.map atT = srt P := by
  obtain ⟨Z, rfl, _, _, hp, hs⟩ := h
  refine sorted_one _ _ ((hp.map atT).trans (List.mergeSort_perm _ _).symm) ?_ ?_
  · exact List.pairwise_map.2 hs
  · have hq : (srt (Z.map atT)).Pairwise fun x y => (!(ltOf posC) y x) = true := List.pairwise_mergeSort (fun a b c h1 h2 => by
      rw [lt_posC] at *
      simp only [lessB, Bool.not_eq_true', decide_eq_false_iff_not] at *
      omega) (fun a b => by
      rw [lt_posC, lt_posC]
      simp only [lessB, Bool.or_eq_true, Bool.not_eq_true', decide_eq_false_iff_not]
      omega) _
    refine hq.imp fun {a b} h => ?_
    rw [lt_posC] at h
    simpa using h
theorem age_one : ∀ (Z : List Tr) (a : Int), (Z.map fun z => z.2.2).Pairwise (· < ·) → (Z.filter fun x => x.2.2 == a).length ≤ 1
  | [], _, _ => Nat.zero_le _
  | z :: Z, a, h => by
    rw [List.map_cons] at h
    obtain ⟨h1, h2⟩ := List.pairwise_cons.1 h
    by_cases hz : z.2.2 = a
    · have hn : Z.filter (fun x => x.2.2 == a) = [] := List.filter_eq_nil_iff.2 fun x hx => by
        have := h1 x.2.2 (List.mem_map_of_mem hx)
        simp
        omega
      simp [hz, hn]
    · have := age_one Z a h2
      simpa [hz] using this
theorem perm_small {α : Type} : ∀ {l1 l2 : List α}, l1.Perm l2 → l2.length ≤ 1 → l1 = l2
  | l1, [], hp, _ => hp.eq_nil
  | l1, [x], hp, _ => List.perm_singleton.1 hp
  | l1, x :: y :: l, hp, h => by simp at h
theorem plA_perm {L Z : List Tr} (hp : L.Perm Z) (hz : (Z.map fun z => z.2.2).Pairwise (· < ·)) (a : Int) : plA L a = plA Z a := by
  unfold plA
  rw [perm_small (hp.filter _) (age_one Z a hz)]
theorem plA_big : ∀ (Z : List Tr) (j : Int), (Z.map fun z => z.2.2).Pairwise (· < ·) → (Z.filter fun z => decide (z.2.2 ≤ j + 1)).map atT = (Z.filter fun z => decide (z.2.2 ≤ j)).map atT ++ plA Z (j + 1)
  | [], _, _ => rfl
  | z :: Z, j, h => by
    rw [List.map_cons] at h
    obtain ⟨h1, h2⟩ := List.pairwise_cons.1 h
    have ih := plA_big Z j h2
    have hall : ∀ x ∈ Z, z.2.2 < x.2.2 := fun x hx => h1 x.2.2 (List.mem_map_of_mem hx)
    unfold plA at *
    rcases (by omega : z.2.2 ≤ j ∨ z.2.2 = j + 1 ∨ j + 1 < z.2.2) with hz | hz | hz
    · have e1 : decide (z.2.2 ≤ j + 1) = true := decide_eq_true (by omega)
      have e2 : decide (z.2.2 ≤ j) = true := decide_eq_true hz
      have e3 : (z.2.2 == j + 1) = false := by simp only [beq_eq_false_iff_ne, ne_eq]; omega
      simp only [List.filter_cons, e1, e2, e3, if_true, List.map_cons, ih, List.cons_append, Bool.false_eq_true, if_false]
    · have n1 : Z.filter (fun x => decide (x.2.2 ≤ j + 1)) = [] := List.filter_eq_nil_iff.2 fun x hx => by have := hall x hx; simp; omega
      have n2 : Z.filter (fun x => decide (x.2.2 ≤ j)) = [] := List.filter_eq_nil_iff.2 fun x hx => by have := hall x hx; simp; omega
      have n3 : Z.filter (fun x => x.2.2 == j + 1) = [] := List.filter_eq_nil_iff.2 fun x hx => by have := hall x hx; simp; omega
      have e1 : decide (z.2.2 ≤ j + 1) = true := decide_eq_true (by omega)
      have e2 : decide (z.2.2 ≤ j) = false := decide_eq_false (by omega)
      have e3 : (z.2.2 == j + 1) = true := by simp only [beq_iff_eq]; omega
      simp only [List.filter_cons, e1, e2, e3, if_true, n1, n2, n3, Bool.false_eq_true, if_false, List.map_nil, List.nil_append]
    · have n1 : Z.filter (fun x => decide (x.2.2 ≤ j + 1)) = [] := List.filter_eq_nil_iff.2 fun x hx => by have := hall x hx; simp; omega
      have n2 : Z.filter (fun x => decide (x.2.2 ≤ j)) = [] := List.filter_eq_nil_iff.2 fun x hx => by have := hall x hx; simp; omega
      have n3 : Z.filter (fun x => x.2.2 == j + 1) = [] := List.filter_eq_nil_iff.2 fun x hx => by have := hall x hx; simp; omega
      have e1 : decide (z.2.2 ≤ j + 1) = false := decide_eq_false (by omega)
      have e2 : decide (z.2.2 ≤ j) = false := decide_eq_false (by omega)
      have e3 : (z.2.2 == j + 1) = false := by simp only [beq_eq_false_iff_ne, ne_eq]; omega
      simp only [List.filter_cons, e1, e2, e3, n1, n2, n3, Bool.false_eq_true, if_false, List.map_nil, List.append_nil]
theorem plN_low (Z : List Tr) (hz : (Z.map fun z => z.2.2).Pairwise (· < ·)) (h1 : ∀ z ∈ Z, 1 ≤ z.2.2) : ∀ j : Nat, plN Z j = (Z.filter fun z => decide (z.2.2 ≤ (j : Int))).map atT
  | 0 => by
    have : Z.filter (fun z => decide (z.2.2 ≤ ((0 : Nat) : Int))) = [] := List.filter_eq_nil_iff.2 fun x hx => by have := h1 x hx; simp; omega
    rw [this]
    rfl
  | j + 1 => by
    rw [plN_succ, plN_low Z hz h1 j, ← plA_big Z j hz]
    rfl
theorem Rel.places {P : List (Int × Int)} {L : List Tr} {next : Nat} (h : Rel P L next) : plN L next = P := by
  obtain ⟨Z, rfl, hz, hb, hp, hs⟩ := h
  have e : plN L next = plN Z next := by
    unfold plN
    congr 1
    funext t
    exact plA_perm hp hz _
  rw [e, plN_low Z hz (fun z hzz => (hb z hzz).1) next, List.filter_eq_self.2 fun z hzz => decide_eq_true (hb z hzz).2]
theorem Rel.ins {P : List (Int × Int)} {L : List Tr} {next : Nat} (h : Rel P L next) (p : Int × Int) : Rel (P ++ [p]) (insL (p.1, p.2, (next : Int) + 1) L) (next + 1) := by
  obtain ⟨Z, rfl, hz, hb, hp, hs⟩ := h
  refine ⟨Z ++ [(p.1, p.2, (next : Int) + 1)], by rw [List.map_append]; rfl, ?_, fun z hzz => ?_, (insL_perm _ _).trans ((hp.cons _).trans (List.perm_append_singleton _ _).symm), insL_sorted _ _ hs⟩
  · rw [List.map_append]
    refine List.pairwise_append.2 ⟨hz, List.pairwise_singleton _ _, fun a ha b hbb => ?_⟩
    obtain ⟨z, hzz, rfl⟩ := List.mem_map.1 ha
    have := (hb z hzz).2
    simp only [List.map_cons, List.map_nil, List.mem_singleton] at hbb
    subst hbb
    show z.2.2 < (next : Int) + 1
    omega
  · rcases List.mem_append.1 hzz with hzz | hzz
    · have := hb z hzz
      omega
    · rw [List.mem_singleton] at hzz
      subst hzz
      show 1 ≤ (next : Int) + 1 ∧ (next : Int) + 1 ≤ ((next + 1 : Nat) : Int)
      omega
theorem Rel.drop {P : List (Int × Int)} {L : List Tr} {next : Nat} (h : Rel P L next) (e : Nat) (he : e < L.length) (hm : ∀ j, j < L.length → (Tz L e).2.2 ≤ (Tz L j).2.2) : Rel P.tail (L.eraseIdx e) next := by
  obtain ⟨Z, rfl, hz, hb, hp, hs⟩ := h
  match Z, hp with
  | [], hp => rw [hp.eq_nil] at he; simp at he
  | z :: Z, hp =>
    rw [List.map_cons] at hz
    obtain ⟨h1, h2⟩ := List.pairwise_cons.1 hz
    have hLe : Tz L e = L[e] := by unfold Tz; rw [List.getElem?_eq_getElem he]; rfl
    have hzL : z ∈ L := hp.mem_iff.2 List.mem_cons_self
    obtain ⟨j, hj, hjz⟩ := List.getElem_of_mem hzL
    have hmj := hm j hj
    have hLj : Tz L j = z := by unfold Tz; rw [List.getElem?_eq_getElem hj, hjz]; rfl
    have heq : L[e] = z := by
      rcases List.mem_cons.1 (hp.mem_iff.1 (List.getElem_mem he)) with h | h
      · exact h
      · have := h1 _ (List.mem_map_of_mem (f := fun z : Tr => z.2.2) h)
        rw [hLe, hLj] at hmj
        omega
    have hpe : L.Perm (z :: L.eraseIdx e) := by
      rw [List.eraseIdx_eq_take_drop_succ, ← heq]
      have e2 : L = L.take e ++ L[e] :: L.drop (e + 1) := by rw [← List.drop_eq_getElem_cons he, List.take_append_drop]
      exact (List.Perm.of_eq e2).trans List.perm_middle
    exact ⟨Z, rfl, h2, fun y hy => hb y (List.mem_cons_of_mem _ hy), List.Perm.cons_inv (hpe.symm.trans hp), hs.sublist (List.eraseIdx_sublist _ _)⟩
theorem Rel.add {P : List (Int × Int)} {L L' : List Tr} {next : Nat} {most : Int} {p : Int × Int} (h : Rel P L next) (hr : RAdd most next L p L') : Rel (addL most P p) L' (next + 1) := by
  have h1 := h.ins p
  have hl := h1.len
  rw [List.length_append] at hl
  simp only [List.length_cons, List.length_nil] at hl
  rcases hr with ⟨hf, rfl⟩ | ⟨hf, e, he, hm, rfl⟩
  · rw [addL, if_pos (by omega)]
    exact h1
  · rw [addL, if_neg (by omega)]
    exact h1.drop e he hm
theorem fold_ins {β : Type} (f : β → Tr) : ∀ (xs : List β) (acc : List Tr), acc.Pairwise leT → (xs.foldl (fun acc x => insL (f x) acc) acc).Perm (acc ++ xs.map f) ∧ (xs.foldl (fun acc x => insL (f x) acc) acc).Pairwise leT
  | [], acc, h => ⟨by simp, h⟩
  | x :: xs, acc, h => by
    obtain ⟨h1, h2⟩ := fold_ins f xs (insL (f x) acc) (insL_sorted _ _ h)
    refine ⟨h1.trans ?_, h2⟩
    rw [List.map_cons]
    exact ((insL_perm (f x) acc).append_right _).trans List.perm_middle.symm
theorem shiftR_fold (k a n : Int) : ∀ (L acc : List Tr), L.foldl (stepS k a n) acc = (L.filter fun x => !goes k a n x).foldl (fun acc x => insL (mvT k a n x) acc) acc
  | [], _ => rfl
  | x :: L, acc => by
    rw [List.foldl_cons, shiftR_fold k a n L]
    unfold stepS
    by_cases hg : goes k a n x = true
    · rw [if_pos hg, List.filter_cons, if_neg (by simp [hg])]
    · rw [if_neg hg, List.filter_cons, if_pos (by simpa using hg), List.foldl_cons]
theorem goes_keep (k a n : Int) (x : Tr) (hk : k = 2) (hc : num x.2.1 = true) : (!goes k a n x) = keepB k a n (atT x) := by
  subst hk
  unfold goes keepB lostB atT okP
  simp only [hc, show begZ 2 a = 0 from rfl]
  cases h1 : num x.1 <;> cases h2 : okS 2 a n <;> simp
  have := num_t h1
  intro _
  omega
theorem Rel.shift {P : List (Int × Int)} {L : List Tr} {next : Nat} (h : Rel P L next) (k a n : Int) (hc : ∀ p ∈ P, num p.2 = true) : Rel (shiftL k a n P) (shiftR k a n L) next := by
  obtain ⟨Z, rfl, hz, hb, hp, hs⟩ := h
  have hf := fold_ins (mvT k a n) (L.filter fun x => !goes k a n x) [] List.Pairwise.nil
  rw [← shiftR_fold k a n L []] at hf
  refine ⟨(Z.filter fun x => !goes k a n x).map (mvT k a n), ?_, ?_, fun z hzz => ?_, hf.1.trans ((hp.filter _).map _), hf.2⟩
  · rw [List.map_map, show atT ∘ mvT k a n = mv k a n ∘ atT from rfl, ← List.map_map]
    unfold shiftL
    congr 1
    by_cases hk : k = 2
    · rw [if_pos hk, List.filter_map]
      congr 1
      refine List.filter_congr fun x hx => ?_
      exact goes_keep k a n x hk (hc (atT x) (List.mem_map_of_mem hx))
    · rw [if_neg hk, List.filter_eq_self.2 fun x _ => by unfold goes; simp [hk]]
  · rw [List.map_map]
    exact hz.sublist (List.Sublist.map _ List.filter_sublist)
  · obtain ⟨y, hy, rfl⟩ := List.mem_map.1 hzz
    exact hb y (List.mem_filter.1 hy).1
theorem Rel.put (l : List (Int × Int)) : Rel l (putR l) l.length := by
  have hf := fold_ins (fun p : (Int × Int) × Nat => ((p.1.1, p.1.2, (p.2 : Int)) : Tr)) (l.zipIdx 1) [] List.Pairwise.nil
  refine ⟨(l.zipIdx 1).map fun p => (p.1.1, p.1.2, (p.2 : Int)), ?_, ?_, fun z hzz => ?_, (by have h1 := hf.1; rw [List.nil_append] at h1; exact h1), hf.2⟩
  · rw [List.map_map]
    have : (atT ∘ fun p : (Int × Int) × Nat => ((p.1.1, p.1.2, (p.2 : Int)) : Tr)) = Prod.fst := rfl
    rw [this, List.zipIdx_map_fst]
  · rw [List.map_map]
    have : ((fun z : Tr => z.2.2) ∘ fun p : (Int × Int) × Nat => ((p.1.1, p.1.2, (p.2 : Int)) : Tr)) = (fun n : Nat => (n : Int)) ∘ Prod.snd := rfl
    rw [this, ← List.map_map, List.zipIdx_map_snd]
    exact List.pairwise_map.2 ((List.pairwise_lt_range' (s := 1) (n := l.length)).imp fun {a b} h => by show (a : Int) < b; omega)
  · obtain ⟨y, hy, rfl⟩ := List.mem_map.1 hzz
    have h1 := List.mem_zipIdx hy
    show 1 ≤ (y.2 : Int) ∧ (y.2 : Int) ≤ (l.length : Int)
    omega
/-- Columns that may be. -/
def NC (P : List (Int × Int)) : Prop := ∀ p ∈ P, num p.2 = true
theorem NC.add {P : List (Int × Int)} (h : NC P) {most : Int} {p : Int × Int} (hp : okP p.1 p.2 = true) : NC (addL most P p) := fun q hq => by
  have h1 : ∀ q ∈ P ++ [p], num q.2 = true := fun q hq => by
    rcases List.mem_append.1 hq with hq | hq
    · exact h q hq
    · rw [List.mem_singleton] at hq
      subst hq
      exact (Bool.and_eq_true_iff.1 hp).2
  unfold addL at hq
  split at hq
  · exact h1 q hq
  · exact h1 q (List.mem_of_mem_tail hq)
theorem NC.shift {P : List (Int × Int)} (h : NC P) (k a n : Int) : NC (shiftL k a n P) := fun q hq => by
  obtain ⟨p, hp, rfl⟩ := List.mem_map.1 hq
  have hp2 : p ∈ P := by
    split at hp
    · exact (List.mem_filter.1 hp).1
    · exact hp
  have := h p hp2
  unfold mv moveZ
  repeat' split
  all_goals first | exact this | (show num 0 = true; decide)
theorem NC.put {l : List (Int × Int)} (h : allRight l = true) : NC l := fun p hp => (Bool.and_eq_true_iff.1 (List.all_eq_true.1 h p hp)).2
theorem addL_len {most : Int} {P : List (Int × Int)} {p : Int × Int} (h : (P.length : Int) ≤ most) : ((addL most P p).length : Int) ≤ most := by
  unfold addL
  split
  · rw [List.length_append]; simp; omega
  · rw [List.length_tail, List.length_append]; simp; omega
theorem shiftL_len (k a n : Int) (P : List (Int × Int)) : (shiftL k a n P).length ≤ P.length := by
  unfold shiftL
  rw [List.length_map]
  split
  · exact List.length_filter_le _ _
  · exact Nat.le_refl _
end Go.Proofs.Ytnkdbpbfapdfeaa
