/- The walk of the law ParamJoins. -/
import Derived.Test.YtjhcjdkbichabaaDoorPp
namespace Go.Proofs.YtjhcjdkbichabaaDoor
open Go.RowKit

theorem split_join (c : UInt8) : ∀ (s t : List UInt8), splitB c (s ++ c :: t) = splitB c s ++ splitB c t
  | [], t => by simp [splitB]
  | x :: r, t => by
    have ih := split_join c r t
    have hne := splitB_ne c r
    rw [List.cons_append, splitB, splitB, ih]
    by_cases hx : x = c
    · rw [if_pos hx, if_pos hx]; rfl
    · rw [if_neg hx, if_neg hx]
      generalize splitB c r = u at *
      match u, hne with
      | g :: gs, _ => rfl
theorem GZ_join (s t : List UInt8) : GZ (s ++ 59 :: t) = GZ s ++ GZ t := by
  unfold GZ
  rw [split_join, List.map_append]
theorem headL_join (s t : List UInt8) : headL (s ++ 59 :: t) = (headL s && headL t) := by
  unfold headL
  rw [List.all_append, List.all_cons]
  rw [show headB 59 = true by decide, Bool.true_and]
theorem HZ_rows (l : List UInt8) (h : headL l = true) : ∀ r ∈ HZ l, r ≠ [] ∧ r.length ≤ 8 ∧ ∀ z ∈ r, -1 ≤ z ∧ z ≤ 65535 := fun r hr => by
  have hb : ∀ x ∈ l, 48 ≤ x.toNat := fun x hx => headB_ge (List.all_eq_true.1 h x hx)
  unfold HZ at hr
  obtain ⟨g, hg, rfl⟩ := List.mem_map.1 hr
  have hg' := List.mem_of_mem_take hg
  unfold GZ at hg'
  obtain ⟨p, hp, rfl⟩ := List.mem_map.1 hg'
  have hne := splitB_ne 58 p
  refine ⟨fun e => ?_, by simp; omega, fun z hz => ?_⟩
  · have h1 := congrArg List.length e
    have h2 := List.length_pos_iff.2 hne
    rw [List.length_take, List.length_map, List.length_nil] at h1
    omega
  · obtain ⟨v, hv, rfl⟩ := List.mem_map.1 (List.mem_of_mem_take hz)
    exact numZ_range v fun x hx => hb x (split_in 59 l p hp x (split_in 58 p v hv x hx))
theorem rowZ_same {r : List Int} (h0 : r ≠ []) (h8 : r.length ≤ 8) (hz : ∀ z ∈ r, -1 ≤ z ∧ z ≤ 65535) : rowZ r = r := by
  unfold rowZ
  rw [if_neg h0, List.take_of_length_le h8]
  conv => rhs; rw [← List.map_id r]
  apply List.map_congr_left
  intro z hzm
  have := hz z hzm
  unfold clampV
  show min (max z (-1)) 65535 = z
  omega
theorem HZ_ne (l : List UInt8) : HZ l ≠ [] := by
  obtain ⟨I, c, h, _⟩ := GZ_form l
  unfold HZ
  rw [h]
  simp
theorem clean_join (s t : List UInt8) (hs : headL s = true) (ht : headL t = true) : cleanL (HZ s ++ HZ t) = HZ (s ++ 59 :: t) := by
  unfold cleanL
  rw [if_neg (by simp [HZ_ne])]
  have h1 : ∀ r ∈ (HZ s ++ HZ t).take 32, rowZ r = r := fun r hr => by
    rcases List.mem_append.1 (List.mem_of_mem_take hr) with h | h
    · obtain ⟨a, b, c⟩ := HZ_rows s hs r h
      exact rowZ_same a b c
    · obtain ⟨a, b, c⟩ := HZ_rows t ht r h
      exact rowZ_same a b c
  rw [List.map_congr_left h1, List.map_id']
  unfold HZ
  rw [GZ_join, ← List.map_append, ← List.map_take]
  congr 1
  generalize GZ s = A
  generalize GZ t = B
  rw [List.take_append, List.take_append, List.take_take, List.length_take, List.take_take]
  by_cases h : A.length ≤ 32
  · congr 2
    omega
  · rw [show 32 - min 32 A.length = 0 by omega, show 32 - A.length = 0 by omega]
    simp

/-- The slice values of rows. -/
theorem RG.vals {w : World} {B : Nat} {A : Option Addr} {L : List (List Int)} (h : RG w B A L) (hne : L ≠ []) :
    ∃ (b off : Nat) (vals : List Value), A = some ⟨b, off, none⟩ ∧ b < B ∧ vals.length = L.length ∧ (∀ i, i < L.length → w.cell? ⟨b, off + i, none⟩ = vals[i]?) ∧ ∀ i, i < L.length → ∃ Ai ci, vals[i]? = some (.slice Ai (L[i]?.getD []).length ci) ∧ RI w B Ai (L[i]?.getD []) ∧ (L[i]?.getD []).length ≤ ci := by
  obtain ⟨b, off, rfl, hb, hc⟩ := h hne
  have ex : ∃ f : Nat → Value, ∀ i, i < L.length → w.cell? ⟨b, off + i, none⟩ = some (f i) := ⟨fun i => (w.cell? ⟨b, off + i, none⟩).getD undef, fun i hi => by
    obtain ⟨Ai, ci, h1, _⟩ := hc i hi
    show _ = some ((w.cell? ⟨b, off + i, none⟩).getD undef)
    rw [h1]; rfl⟩
  obtain ⟨f, hf⟩ := ex
  refine ⟨b, off, (List.range L.length).map f, rfl, hb, by simp, fun i hi => ?_, fun i hi => ?_⟩
  · rw [hf i hi, List.getElem?_map, List.getElem?_range hi]; rfl
  · obtain ⟨Ai, ci, h1, h2, h3⟩ := hc i hi
    refine ⟨Ai, ci, ?_, h2, h3⟩
    rw [List.getElem?_map, List.getElem?_range hi, Option.map_some, ← hf i hi, h1]
/-- Slice values that read as rows. -/
def VR (w : World) (vals : List Value) (L : List (List Int)) : Prop :=
  vals.length = L.length ∧ ∀ i, i < L.length → ∃ Ai ci, vals[i]? = some (.slice Ai (L[i]?.getD []).length ci) ∧ RI w w.heap.size Ai (L[i]?.getD []) ∧ (L[i]?.getD []).length ≤ ci
theorem VR.past {w w' : World} {vals : List Value} {L : List (List Int)} (h : VR w vals L) (hb : Below w.heap.size w w') : VR w' vals L := ⟨h.1, fun i hi => by
  obtain ⟨Ai, ci, h1, h2, h3⟩ := h.2 i hi
  exact ⟨Ai, ci, h1, h2.past hb, h3⟩⟩
theorem VR.append {w : World} {v1 v2 : List Value} {L1 L2 : List (List Int)} (h1 : VR w v1 L1) (h2 : VR w v2 L2) : VR w (v1 ++ v2) (L1 ++ L2) := by
  refine ⟨by simp [h1.1, h2.1], fun i hi => ?_⟩
  by_cases h : i < L1.length
  · rw [List.getElem?_append_left (by rw [h1.1]; exact h), List.getElem?_append_left h]
    exact h1.2 i h
  · have hle : L1.length ≤ i := Nat.not_lt.1 h
    rw [List.getElem?_append_right (by rw [h1.1]; exact hle), List.getElem?_append_right hle, h1.1]
    exact h2.2 _ (by simp at hi; omega)
theorem VR.one {w : World} {vals : List Value} {L : List (List Int)} (h : VR w vals L) : ∀ u ∈ vals, u.oneCell' = true := fun u hu => by
  obtain ⟨i, hi, e⟩ := List.mem_iff_getElem.1 hu
  obtain ⟨Ai, ci, h1, _⟩ := h.2 i (by rw [← h.1]; exact hi)
  rw [List.getElem?_eq_getElem hi] at h1
  rw [← e, Option.some.inj h1]
  rfl
theorem VR.rg {w : World} {B n c : Nat} {A : Option Addr} {vals : List Value} {L : List (List Int)} (h : VR w vals L) (ho : w.ownsRow B 31 1 (.slice A n c) n vals) (hn : n = L.length) : RG w w.heap.size A L := fun hne => by
  obtain ⟨A', c', e, hA⟩ := own_form ho
  injection e with e1 _ _
  subst e1
  have hpos : 0 < n := by rw [hn]; exact List.length_pos_iff.2 hne
  obtain ⟨g, rfl⟩ := hA hpos
  refine ⟨g, 0, rfl, (ho.lt g rfl).2, fun i hi => ?_⟩
  obtain ⟨Ai, ci, h1, h2, h3⟩ := h.2 i hi
  exact ⟨Ai, ci, by rw [Nat.zero_add, ho.cellAt i (by omega), h1], h2, h3⟩

theorem str3 (s t : ByteArray) : (s ++ (⟨#[59]⟩ : ByteArray) ++ t).data.toList = s.data.toList ++ 59 :: t.data.toList := by simp

/-- Parse at a text that is a head, and at one that is none. -/
theorem PT.yes {w : World} (h : PT w) (s : ByteArray) (hs : s.size ≤ 1000000) (hh : headL s.data.toList = true) (L : List (List Int)) (hL : HZ s.data.toList = L) : Calls Tryd.prog 9 #[.string s] w fun e w' => ∃ A c, e = .returned (.tuple #[.slice A L.length c, .bool true]) ∧ RG w' w'.heap.size A L ∧ Below w.heap.size w w' :=
  (h.parse s hs).mono fun e w' h => by
    rcases h with ⟨h, _⟩ | ⟨_, h⟩
    · rw [hh] at h; simp at h
    · rw [hL] at h; exact h
theorem PT.no {w : World} (h : PT w) (s : ByteArray) (hs : s.size ≤ 1000000) (hh : headL s.data.toList = false) : Calls Tryd.prog 9 #[.string s] w fun e w' => e = .returned (.tuple #[.slice none 0 0, .bool false]) ∧ Below w.heap.size w w' :=
  (h.parse s hs).mono fun e w' h => by
    rcases h with ⟨_, h1, h2⟩ | ⟨h, _⟩
    · exact ⟨h1, h2⟩
    · rw [hh] at h; simp at h

set_option maxRecDepth 100000 in
set_option maxHeartbeats 8000000 in
theorem paramJoins_law (s t : ByteArray) (w : World) (hT : PT w) (hs : s.size ≤ 9223372036854775807) (ht : t.size ≤ 9223372036854775807) :
    Calls Tryd.prog 7 #[.string s, .string t] w fun e w' => e = .returned (.bool true) ∧ Below w.heap.size w w' := by
  obtain ⟨i1, hi1, hy0, hy1, hy2⟩ := info_parts Tryd.infoInts
  have HA : Hid (∀ W, Below w.heap.size w W → Calls Tryd.prog 8 #[] W fun e w' => e = .returned (.bool true) ∧ Below W.heap.size W w') := Lib.hid fun W hW => awake_any W (hT.below hW)
  by_cases h60 : (60 : Int) < s.size ∨ (60 : Int) < t.size
  · have hd : (decide ((60 : Int) < s.size) = true) ∨ (decide ((60 : Int) < s.size) = false ∧ decide ((60 : Int) < t.size) = true) := by
      by_cases h : (60 : Int) < s.size
      · exact .inl (decide_eq_true h)
      · exact .inr ⟨decide_eq_false h, decide_eq_true (by omega)⟩
    clear hT h60
    rcases hd with hd | ⟨hd, hd2⟩
    all_goals
      go_enter Tryd.func7, Tryd.ntmps7
      go_wp2_with (go_at_call 8; (with_reducible refine (HA.out _ (Below.refl _ _)).mono ?_); rintro e w2 ⟨rfl, hb2⟩)
      go_ret
      exact ⟨rfl, hb2⟩
  · have hs60 : s.size ≤ 60 := by omega
    have ht60 : t.size ≤ 60 := by omega
    have hd1 : decide ((60 : Int) < s.size) = false := decide_eq_false (by omega)
    have hd2 : decide ((60 : Int) < t.size) = false := decide_eq_false (by omega)
    obtain ⟨u, hu⟩ : ∃ u : ByteArray, s ++ (⟨#[59]⟩ : ByteArray) ++ t = u := ⟨_, rfl⟩
    have hul : u.data.toList = s.data.toList ++ 59 :: t.data.toList := by rw [← hu]; exact str3 s t
    have huz : u.size ≤ 1000000 := by
      have h1 : u.data.toList.length = u.size := by simp
      have h2 : s.data.toList.length = s.size := by simp
      have h3 : t.data.toList.length = t.size := by simp
      rw [hul] at h1
      simp only [List.length_append, List.length_cons] at h1
      omega
    have hj := headL_join s.data.toList t.data.toList
    rw [← hul] at hj
    by_cases hst : headL s.data.toList = true ∧ headL t.data.toList = true
    · obtain ⟨hh1, hh2⟩ := hst
      rw [hh1, hh2] at hj
      obtain ⟨La, hLa⟩ : ∃ L, HZ s.data.toList = L := ⟨_, rfl⟩
      obtain ⟨Lb, hLb⟩ : ∃ L, HZ t.data.toList = L := ⟨_, rfl⟩
      obtain ⟨Lu, hLu⟩ : ∃ L, HZ u.data.toList = L := ⟨_, rfl⟩
      have hcl := clean_join s.data.toList t.data.toList hh1 hh2
      rw [← hul, hLa, hLb, hLu] at hcl
      have HP1 := Lib.hid (fun W (hW : Below w.heap.size w W) => (hT.below hW).yes s (by omega) hh1 La hLa)
      have HP2 := Lib.hid (fun W (hW : Below w.heap.size w W) => (hT.below hW).yes t (by omega) hh2 Lb hLb)
      have HP3 := Lib.hid (fun W (hW : Below w.heap.size w W) => (hT.below hW).yes u huz hj Lu hLu)
      have hna : La ≠ [] := hLa ▸ HZ_ne _
      have hnb : Lb ≠ [] := hLb ▸ HZ_ne _
      have hla : La.length ≤ 32 := hLa ▸ HZ_len _
      have hlb : Lb.length ≤ 32 := hLb ▸ HZ_len _
      have hlu : Lu.length ≤ 32 := hLu ▸ HZ_len _
      have hru : ∀ i : Nat, (Lu[i]?.getD []).length ≤ 9223372036854775807 := hLu ▸ HZ_row _
      have hrows : ∀ r ∈ La ++ Lb, r.length ≤ 1000 := fun r hr => by
        rcases List.mem_append.1 hr with h | h
        · have := (HZ_rows _ hh1 r (hLa ▸ h)).2.1; omega
        · have := (HZ_rows _ hh2 r (hLb ▸ h)).2.1; omega
      have HC : Hid (∀ W A c, La.length + Lb.length ≤ c → RG W W.heap.size A (La ++ Lb) → Calls Tryd.prog 13 #[.slice A (La.length + Lb.length) c] W (RowsPost Lu W)) := Lib.hid fun W A c hc h => by
        have := clean_any A (La ++ Lb) (La.length + Lb.length) c (by simp) hc (by omega) hrows W h
        rw [hcl] at this
        exact this
      have HS : Hid (∀ W A A' c c', RG W W.heap.size A Lu → RG W W.heap.size A' Lu → Calls Tryd.prog 11 #[.slice A Lu.length c, .slice A' Lu.length c'] W fun e w' => e = .returned (.bool true) ∧ Below W.heap.size W w') := Lib.hid fun W A A' c c' h1 h2 => by
        have := same_any A A' Lu Lu _ _ c c' rfl rfl (by omega) hru W h1 h2
        rw [show sameL Lu Lu = true from decide_eq_true rfl] at this
        exact this
      have HNA := Lib.hid hna
      have HNB := Lib.hid hnb
      clear hT hLa hLb hLu hcl hh1 hh2 hj hul hna hnb hru hrows h60 hs ht
      go_enter Tryd.func7, Tryd.ntmps7
      go_upto_region 10 with (first
        | (go_at_call 9; (with_reducible refine (HP1.out _ (Below.refl _ _)).mono ?_); rintro e w1 ⟨A1, c1, rfl, hr1, hb1⟩; have HR1 := Lib.hid hr1; have HB1 := Lib.hid hb1; clear hr1 hb1)
        | (go_at_call 9; (with_reducible refine (HP2.out _ HB1.out).mono ?_); rintro e w2 ⟨A2, c2, rfl, hr2, hb2⟩; have HR2 := Lib.hid hr2; have HR12 := Lib.hid (HR1.out.past hb2); have HB2 := Lib.hid (bel0 HB1.out hb2); clear hr2 hb2)
        | (go_at_call 9; (with_reducible refine (HP3.out _ HB2.out).mono ?_); rintro e w3 ⟨A3, c3, rfl, hr3, hb3⟩; have HR3 := Lib.hid hr3; have HR13 := Lib.hid (HR12.out.past hb3); have HR23 := Lib.hid (HR2.out.past hb3); have HB3 := Lib.hid (bel0 HB2.out hb3); clear hr3 hb3))
      obtain ⟨b1, o1, vals1, hA1, hb1, hvl1, hcell1, hv1⟩ := HR13.out.vals HNA.out
      obtain ⟨b2, o2, vals2, hA2, hb2, hvl2, hcell2, hv2⟩ := HR23.out.vals HNB.out
      subst hA1; subst hA2
      have HV1 : Hid (VR w3 vals1 La) := Lib.hid ⟨hvl1, hv1⟩
      have HV2 : Hid (VR w3 vals2 Lb) := Lib.hid ⟨hvl2, hv2⟩
      have HX : Hid (Below w3.heap.size w3 (w3.alloc (.cells #[] 31))) := Lib.hid (belA (Below.refl _ _) _)
      have HEX : Hid ((w3.alloc (.cells #[] 31)).ownsRow w3.heap.size 31 1 (.slice (some ⟨w3.heap.size, 0, none⟩) 0 0) 0 []) := Lib.hid (World.ownsRow_lit w3 #[] 0 (Nat.le_refl _) (by unfold maxLen; omega) rfl)
      have HNEW : Hid (∀ W, Below w3.heap.size w3 W → (∀ (j : Nat) (u : Value), vals1[j]? = some u → W.cell? ((⟨b1, o1, none⟩ : Addr).add j) = some u) ∧ ∀ (j : Nat) (u : Value), vals2[j]? = some u → W.cell? ((⟨b2, o2, none⟩ : Addr).add j) = some u) := Lib.hid fun W hW => by
        have hadd : ∀ (b o j : Nat), (⟨b, o, none⟩ : Addr).add j = ⟨b, o + j, none⟩ := fun b o j => by unfold Addr.add; split <;> simp_all
        refine ⟨fun j u hj => ?_, fun j u hj => ?_⟩
        · have hl : j < La.length := by rw [← hvl1]; exact (List.getElem?_eq_some_iff.1 hj).1
          rw [hadd, hW.cell (p := ⟨b1, o1 + j, none⟩) hb1, hcell1 j hl, hj]
        · have hl : j < Lb.length := by rw [← hvl2]; exact (List.getElem?_eq_some_iff.1 hj).1
          rw [hadd, hW.cell (p := ⟨b2, o2 + j, none⟩) hb2, hcell2 j hl, hj]
      have HL1 : Hid (vals1.length = La.length * 1) := Lib.hid (by rw [hvl1]; omega)
      have HL2 : Hid (vals2.length = Lb.length * 1) := Lib.hid (by rw [hvl2]; omega)
      have HONE1 := Lib.hid HV1.out.one
      have HONE2 := Lib.hid HV2.out.one
      clear hvl1 hvl2 hv1 hv2 hcell1 hcell2 hb1 hb2 HP1 HP2 HP3
      go_wp2_with (first
        | (at_builtin; (refine wpList_append_own _ rfl _ _ 23 rfl w3.heap.size 31 i1 (.slice none 0 0) 1 24 Tryd.underlying23 hi1 hy0 hy1 hy2 rfl (by decide) (.slice (some ⟨w3.heap.size, 0, none⟩) 0 0) 0 [] rfl HEX.out ⟨b1, o1, none⟩ La.length c1 vals1 rfl HL1.out (HNEW.out _ HX.out).1 HONE1.out (by unfold maxLen; omega) (by omega) (by simp) ?_; intro v5 w5 hown5 hgrow5 _; have hb5 := HX.out.grown hgrow5 (by simp) (fun j e => by cases e; exact Nat.le_refl _); have hown5' : w5.ownsRow w3.heap.size 31 1 v5 La.length vals1 := by { simpa using hown5 }; obtain ⟨A5, c5, rfl, _⟩ := own_form hown5'; have HO5 := Lib.hid hown5'; have HB5 := Lib.hid hb5; clear hown5 hown5' hgrow5 hb5))
        | (at_builtin; (refine wpList_append_own _ rfl _ _ 23 rfl w3.heap.size 31 i1 (.slice none 0 0) 1 24 Tryd.underlying23 hi1 hy0 hy1 hy2 rfl (by decide) (.slice A5 La.length c5) La.length vals1 rfl HO5.out ⟨b2, o2, none⟩ Lb.length c2 vals2 rfl HL2.out (HNEW.out _ HB5.out).2 HONE2.out (by unfold maxLen; omega) (by omega) HB5.out.size ?_; intro v6 w6 hown6 hgrow6 _; have hb6 := HB5.out.grown hgrow6 HB5.out.size (fun j e => (HO5.out.lt j e).1); obtain ⟨A6, c6, rfl, _⟩ := own_form hown6; have HRG := Lib.hid (((HV1.out.past hb6).append (HV2.out.past hb6)).rg hown6 (by simp)); have HCP := Lib.hid (own_cap hown6); have HR36 := Lib.hid (HR3.out.past hb6); have HB6 := Lib.hid (bel0 HB3.out hb6); clear hown6 hgrow6 hb6))
        | (go_at_call 13; (with_reducible refine (HC.out _ _ _ HCP.out HRG.out).mono ?_); rintro e w7 ⟨A7, c7, rfl, _, hr7, hb7⟩; have HR7 := Lib.hid hr7; have HR37 := Lib.hid (HR36.out.past hb7); have HB7 := Lib.hid (bel0 HB6.out hb7); clear hr7 hb7)
        | (go_at_call 11; (with_reducible refine (HS.out _ _ _ _ _ HR37.out HR7.out).mono ?_); rintro e w8 ⟨rfl, hb8⟩; have HB8 := Lib.hid (bel0 HB7.out hb8); clear hb8)
        | (go_at_call 8; (with_reducible refine (HA.out _ HB8.out).mono ?_); rintro e w9 ⟨rfl, hb9⟩; have HB9 := Lib.hid (bel0 HB8.out hb9); clear hb9))
      go_ret
      exact ⟨rfl, HB9.out⟩
    · have hj' : headL u.data.toList = false := by
        rw [hj]
        cases h1 : headL s.data.toList <;> cases h2 : headL t.data.toList <;> simp [h1, h2] at hst ⊢
      have HP3 := Lib.hid (fun W (hW : Below w.heap.size w W) => (hT.below hW).no u huz hj')
      cases hh1 : headL s.data.toList with
      | false =>
        have HP1 := Lib.hid (fun W (hW : Below w.heap.size w W) => (hT.below hW).no s (by omega) hh1)
        cases hh2 : headL t.data.toList with
        | false =>
          have HP2 := Lib.hid (fun W (hW : Below w.heap.size w W) => (hT.below hW).no t (by omega) hh2)
          clear hT hst hj hj' hh1 hh2 hul h60 hs ht
          go_enter Tryd.func7, Tryd.ntmps7
          go_wp2_with (first
            | (go_at_call 9; (with_reducible refine (HP1.out _ (Below.refl _ _)).mono ?_); rintro e w1 ⟨rfl, hb1⟩; have HB1 := Lib.hid hb1; clear hb1)
            | (go_at_call 9; (with_reducible refine (HP2.out _ HB1.out).mono ?_); rintro e w2 ⟨rfl, hb2⟩; have HB2 := Lib.hid (bel0 HB1.out hb2); clear hb2)
            | (go_at_call 9; (with_reducible refine (HP3.out _ HB2.out).mono ?_); rintro e w3 ⟨rfl, hb3⟩; have HB3 := Lib.hid (bel0 HB2.out hb3); clear hb3)
            | (go_at_call 8; (with_reducible refine (HA.out _ HB3.out).mono ?_); rintro e w9 ⟨rfl, hb9⟩; have HB9 := Lib.hid (bel0 HB3.out hb9); clear hb9))
          go_ret
          exact ⟨rfl, HB9.out⟩
        | true =>
          obtain ⟨Lb, hLb⟩ : ∃ L, HZ t.data.toList = L := ⟨_, rfl⟩
          have HP2 := Lib.hid (fun W (hW : Below w.heap.size w W) => (hT.below hW).yes t (by omega) hh2 Lb hLb)
          clear hT hst hj hj' hh1 hh2 hul h60 hs ht hLb
          go_enter Tryd.func7, Tryd.ntmps7
          go_wp2_with (first
            | (go_at_call 9; (with_reducible refine (HP1.out _ (Below.refl _ _)).mono ?_); rintro e w1 ⟨rfl, hb1⟩; have HB1 := Lib.hid hb1; clear hb1)
            | (go_at_call 9; (with_reducible refine (HP2.out _ HB1.out).mono ?_); rintro e w2 ⟨Aq2, cq2, rfl, _, hb2⟩; have HB2 := Lib.hid (bel0 HB1.out hb2); clear hb2)
            | (go_at_call 9; (with_reducible refine (HP3.out _ HB2.out).mono ?_); rintro e w3 ⟨rfl, hb3⟩; have HB3 := Lib.hid (bel0 HB2.out hb3); clear hb3)
            | (go_at_call 8; (with_reducible refine (HA.out _ HB3.out).mono ?_); rintro e w9 ⟨rfl, hb9⟩; have HB9 := Lib.hid (bel0 HB3.out hb9); clear hb9))
          go_ret
          exact ⟨rfl, HB9.out⟩
      | true =>
        obtain ⟨La, hLa⟩ : ∃ L, HZ s.data.toList = L := ⟨_, rfl⟩
        have HP1 := Lib.hid (fun W (hW : Below w.heap.size w W) => (hT.below hW).yes s (by omega) hh1 La hLa)
        have hh2 : headL t.data.toList = false := by
          cases h2 : headL t.data.toList with
          | false => rfl
          | true => exact absurd ⟨hh1, h2⟩ hst
        have HP2 := Lib.hid (fun W (hW : Below w.heap.size w W) => (hT.below hW).no t (by omega) hh2)
        clear hT hst hj hj' hh1 hh2 hul h60 hs ht hLa
        go_enter Tryd.func7, Tryd.ntmps7
        go_wp2_with (first
          | (go_at_call 9; (with_reducible refine (HP1.out _ (Below.refl _ _)).mono ?_); rintro e w1 ⟨Aq1, cq1, rfl, _, hb1⟩; have HB1 := Lib.hid hb1; clear hb1)
          | (go_at_call 9; (with_reducible refine (HP2.out _ HB1.out).mono ?_); rintro e w2 ⟨rfl, hb2⟩; have HB2 := Lib.hid (bel0 HB1.out hb2); clear hb2)
          | (go_at_call 9; (with_reducible refine (HP3.out _ HB2.out).mono ?_); rintro e w3 ⟨rfl, hb3⟩; have HB3 := Lib.hid (bel0 HB2.out hb3); clear hb3)
          | (go_at_call 8; (with_reducible refine (HA.out _ HB3.out).mono ?_); rintro e w9 ⟨rfl, hb9⟩; have HB9 := Lib.hid (bel0 HB3.out hb9); clear hb9))
        go_ret
        exact ⟨rfl, HB9.out⟩

end Go.Proofs.YtjhcjdkbichabaaDoor
