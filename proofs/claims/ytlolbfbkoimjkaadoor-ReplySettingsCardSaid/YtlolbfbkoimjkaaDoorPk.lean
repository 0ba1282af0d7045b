/- The walk of the law ParamJoins. -/
import Derived.Test.YtlolbfbkoimjkaaDoorPp
namespace Go.Proofs.YtlolbfbkoimjkaaDoor
open Go.RowKit

theorem split_join (c : UInt8) : ∀ (s t : List UInt8), splitB c (s ++ c :: t) = splitB c s ++ splitB c t
  | [], t => by simp [splitB]
  | x :: r, t => by
    have ih := split_join c r t
    have hne := splitB_ne c r
    rw [List.cons_append, splitB, splitB, ih]
    by_cases hx : x = c
    · rw [if_pos hx, if_pos hx]; rfl
    · rw [if_neg hx, if_neg hx]
      generalize splitB c r = u at *
      match u, hne with
      | g :: gs, _ => rfl
theorem GZ_join (s t : List UInt8) : GZ (s ++ 59 :: t) = GZ s ++ GZ t := by
  unfold GZ
  rw [split_join, List.map_append]
theorem headL_join (s t : List UInt8) : headL (s ++ 59 :: t) = (headL s && headL t) := by
  unfold headL
  rw [List.all_append, List.all_cons]
  rw [show headB 59 = true by decide, Bool.true_and]
theorem HZ_rows (l : List UInt8) (h : headL l = true) : ∀ r ∈ HZ l, r ≠ [] ∧ r.length ≤ 8 ∧ ∀ z ∈ r, -1 ≤ z ∧ z ≤ 65535 := fun r hr => by
  have hb : ∀ x ∈ l, 48 ≤ x.toNat := fun x hx => headB_ge (List.all_eq_true.1 h x hx)
  unfold HZ at hr
  obtain ⟨g, hg, rfl⟩ := List.mem_map.1 hr
  have hg' := List.mem_of_mem_take hg
  unfold GZ at hg'
  obtain ⟨p, hp, rfl⟩ := List.mem_map.1 hg'
  have hne := splitB_ne 58 p
  refine ⟨fun e => ?_, by simp; omega, fun z hz => ?_⟩
  · have h1 := congrArg List.length e
    have h2 := List.length_pos_iff.2 hne
    rw [List.length_take, List.length_map, List.length_nil] at h1
    omega
  · obtain ⟨v, hv, rfl⟩ := List.mem_map.1 (List.mem_of_mem_take hz)
    exact numZ_range v fun x hx => hb x (split_in 59 l p hp x (split_in 58 p v hv x hx))
theorem rowZ_same {r : List Int} (h0 : r ≠ []) (h8 : r.length ≤ 8) (hz : ∀ z ∈ r, -1 ≤ z ∧ z ≤ 65535) : rowZ r = r := by
  unfold rowZ
  rw [if_neg h0, List.take_of_length_le h8]
  conv => rhs; rw [← List.map_id r]
  apply List.map_congr_left
  intro z hzm
  have := hz z hzm
  unfold clampV
  show min (max z (-1)) 65535 = z
  omega
theorem HZ_ne (l : List UInt8) : HZ l ≠ [] := by
  obtain ⟨I, c, h, _⟩ := GZ_form l
  unfold HZ
  rw [h]
  simp
theorem clean_join (s t : List UInt8) (hs : headL s = true) (ht : headL t = true) : cleanL (HZ s ++ HZ t) = HZ (s ++ 59 :: t) := by
  unfold cleanL
  rw [if_neg (by simp [HZ_ne])]
  have h1 : ∀ r ∈ (HZ s ++ HZ t).take 32, rowZ r = r := fun r hr => by
    rcases List.mem_append.1 (List.mem_of_mem_take hr) with h | h
    · obtain ⟨a, b, c⟩ := HZ_rows s hs r h
      exact rowZ_same a b c
    · obtain ⟨a, b, c⟩ := HZ_rows t ht r h
      exact rowZ_same a b c
  rw [List.map_congr_left h1, List.map_id']
  unfold HZ
  rw [GZ_join, ← List.map_append, ← List.map_take]
  congr 1
  generalize GZ s = A
  generalize GZ t = B
  rw [List.take_append, List.take_append, List.take_take, List.length_take, List.take_take]
  by_cases h : A.length ≤ 32
  · congr 2
    omega
  · rw [show 32 - min 32 A.length = 0 by omega, show 32 - A.length = 0 by omega]
    simp

/-- The slice values of rows. -/
theorem RG.vals {w : World} {B : Nat} {A : Option Addr} {L : List (List Int)} (h : RG w B A L) (hne : L ≠ []) :
    ∃ (b off : Nat) (vals : List Value), A = some ⟨b, off, none⟩ ∧ b < B ∧ vals.length = L.length ∧ (∀ i, i < L.length → w.cell? ⟨b, off + i, none⟩ = vals[i]?) ∧ ∀ i, i < L.length → ∃ Ai ci, vals[i]? = some (.slice Ai (L[i]?.getD []).length ci) ∧ RI w B Ai (L[i]?.getD []) ∧ (L[i]?.getD []).length ≤ ci := by
  obtain ⟨b, off, rfl, hb, hc⟩ := h hne
  have ex : ∃ f : Nat → Value, ∀ i, i < L.length → w.cell? ⟨b, off + i, none⟩ = some (f i) := ⟨fun i => (w.cell? ⟨b, off + i, none⟩).getD undef, fun i hi => by
    obtain ⟨Ai, ci, h1, _⟩ := hc i hi
    show _ = some ((w.cell? ⟨b, off + i, none⟩).getD undef)
    rw [h1]; rfl⟩
  obtain ⟨f, hf⟩ := ex
  refine ⟨b, off, (List.range L.length).map f, rfl, hb, by simp, fun i hi => ?_, fun i hi => ?_⟩
  · rw [hf i hi, List.getElem?_map, List.getElem?_range hi]; rfl
  · obtain ⟨Ai, ci, h1, h2, h3⟩ := hc i hi
    refine ⟨Ai, ci, ?_, h2, h3⟩
    rw [List.getElem?_map, List.getElem?_range hi, Option.map_some, ← hf i hi, h1]
/-- Slice values that read as rows. -/
def VR (w : World) (vals : List Value) (L : List (List Int)) : Prop :=
  vals.length = L.length ∧ ∀ i, i < L.length → ∃ Ai ci, vals[i]? = some (.slice Ai (L[i]?.getD []).length ci) ∧ RI w w.heap.size Ai (L[i]?.getD []) ∧ (L[i]?.getD []).length ≤ ci
theorem VR.past {w w' : World} {vals : List Value} {L : List (List Int)} (h : VR w vals L) (hb : Below w.heap.size w w') : VR w' vals L := ⟨h.1, fun i hi => by
  obtain ⟨Ai, ci, h1, h2, h3⟩ := h.2 i hi
  exact ⟨Ai, ci, h1, h2.past hb, h3⟩⟩
theorem VR.append {w : World} {v1 v2 : List Value} {L1 L2 : List (List Int)} (h1 : VR w v1 L1) (h2 : VR w v2 L2) : VR w (v1 ++ v2) (L1 ++ L2) := by
  refine ⟨by simp [h1.1, h2.1], fun i hi => ?_⟩
  by_cases h : i < L1.length
  · rw [List.getElem?_append_left (by rw [h1.1]; exact h), List.getElem?_append_left h]
    exact h1.2 i h
  · have hle : L1.length ≤ i := Nat.not_lt.1 h
    rw [List.getElem?_append_right (by rw [h1.1]; exact hle), List.getElem?_append_right hle, h1.1]
    exact h2.2 _ (by simp at hi; omega)
theorem VR.one {w : World} {vals : List Value} {L : List (List Int)} (h : VR w vals L) : ∀ u ∈ vals, u.oneCell' = true := fun u hu => by
  obtain ⟨i, hi, e⟩ := List.mem_iff_getElem.1 hu
  obtain ⟨Ai, ci, h1, _⟩ := h.2 i (by rw [← h.1]; exact hi)
  rw [List.getElem?_eq_getElem hi] at h1
  rw [← e, Option.some.inj h1]
  rfl
theorem VR.rg {w : World} {B n c : Nat} {A : Option Addr} {vals : List Value} {L : List (List Int)} (h : VR w vals L) (ho : w.ownsRow B 42 1 (.slice A n c) n vals) (hn : n = L.length) : RG w w.heap.size A L := fun hne => by
  obtain ⟨A', c', e, hA⟩ := own_form ho
  injection e with e1 _ _
  subst e1
  have hpos : 0 < n := by rw [hn]; exact List.length_pos_iff.2 hne
  obtain ⟨g, rfl⟩ := hA hpos
  refine ⟨g, 0, rfl, (ho.lt g rfl).2, fun i hi => ?_⟩
  obtain ⟨Ai, ci, h1, h2, h3⟩ := h.2 i hi
  exact ⟨Ai, ci, by rw [Nat.zero_add, ho.cellAt i (by omega), h1], h2, h3⟩

theorem str3 (s t : ByteArray) : (s ++ (⟨#[59]⟩ : ByteArray) ++ t).data.toList = s.data.toList ++ 59 :: t.data.toList := by simp

/-- Parse at a text that is a head, and at one that is none. -/
theorem PT.yes {w : World} (h : PT w) (s : ByteArray) (hs : s.size ≤ 1000000) (hh : headL s.data.toList = true) (L : List (List Int)) (hL : HZ s.data.toList = L) : Calls Tryd.prog 32 #[.string s] w fun e w' => ∃ A c, e = .returned (.tuple #[.slice A L.length c, .bool true]) ∧ RG w' w'.heap.size A L ∧ Below w.heap.size w w' :=
  (h.parse s hs).mono fun e w' h => by
    rcases h with ⟨h, _⟩ | ⟨_, h⟩
    · rw [hh] at h; simp at h
    · rw [hL] at h; exact h
theorem PT.no {w : World} (h : PT w) (s : ByteArray) (hs : s.size ≤ 1000000) (hh : headL s.data.toList = false) : Calls Tryd.prog 32 #[.string s] w fun e w' => e = .returned (.tuple #[.slice none 0 0, .bool false]) ∧ Below w.heap.size w w' :=
  (h.parse s hs).mono fun e w' h => by
    rcases h with ⟨_, h1, h2⟩ | ⟨h, _⟩
    · exact ⟨h1, h2⟩
    · rw [hh] at h; simp at h

end Go.Proofs.YtlolbfbkoimjkaaDoor
