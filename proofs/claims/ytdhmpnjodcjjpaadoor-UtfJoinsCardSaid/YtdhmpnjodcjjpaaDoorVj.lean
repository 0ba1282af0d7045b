/- The walk of the law UtfJoins. -/
import Derived.Test.YtdhmpnjodcjjpaaDoorVe
import Derived.Test.YtdhmpnjodcjjpaaDoorVb
import Derived.Lib.AppendStr
import Derived.Deep.RegionWith
namespace Go.Proofs.YtdhmpnjodcjjpaaDoor
open Go.RowKit Go.Shelf

def putAll (l : List Int) : List Nat := l.flatMap putL
def scL (l : List Int) : List Int := l.filter scalarB
theorem putL_no (r : Int) (h : scalarB r = false) : putL r = [] := by unfold putL; rw [if_neg (by rw [h]; decide)]
/-- Any scalars' bytes are read as these scalars, whatever stands behind them. -/
theorem all_puts : ∀ (l : List Int) (more : List Nat), allL (putAll l ++ more) = (scL l).map Int.toNat ++ allL more
  | [], more => rfl
  | r :: l, more => by
    have ih := all_puts l more
    have e : putAll (r :: l) ++ more = putL r ++ (putAll l ++ more) := by unfold putAll; rw [List.flatMap_cons, List.append_assoc]
    cases h : scalarB r with
    | true =>
      rw [e, all_put r h, ih]
      have : scL (r :: l) = r :: scL l := by unfold scL; rw [List.filter_cons, if_pos h]
      rw [this]; rfl
    | false =>
      rw [e, putL_no r h, List.nil_append, ih]
      have : scL (r :: l) = scL l := by unfold scL; rw [List.filter_cons, if_neg (by rw [h]; decide)]
      rw [this]
theorem putAll_snoc (l : List Int) (r : Int) : putAll (l ++ [r]) = putAll l ++ putL r := by unfold putAll; simp
theorem scL_yes (l : List Int) (r : Int) (h : scalarB r = true) : scL (l ++ [r]) = scL l ++ [r] := by unfold scL; simp [h]
theorem scL_no (l : List Int) (r : Int) (h : scalarB r = false) : scL (l ++ [r]) = scL l := by unfold scL; simp [h]
theorem putAll_lt (l : List Int) : ∀ z ∈ putAll l, z < 256 := by
  intro z hz
  obtain ⟨r, _, hr⟩ := List.mem_flatMap.1 hz
  exact putL_lt r z hr
theorem putL_le (r : Int) : (putL r).length ≤ 4 := by
  cases h : scalarB r with
  | true => exact (putL_len r h).2
  | false => rw [putL_no r h]; decide
theorem putAll_len : ∀ l : List Int, (putAll l).length ≤ 4 * l.length
  | [] => by decide
  | r :: l => by
    have := putAll_len l
    have h := putL_le r
    unfold putAll at this ⊢
    rw [List.flatMap_cons, List.length_append, List.length_cons]
    omega
theorem scL_len (l : List Int) : (scL l).length ≤ l.length := List.length_filter_le _ _
theorem strCells_L (zs : List Nat) (hz : ∀ z ∈ zs, z < 256) : Lib.strCells (strL zs) = zs.map encB := by
  unfold Lib.strCells strL encB
  simp only [List.map_map]
  refine List.map_congr_left fun z h => ?_
  have := hz z h
  simp
  omega
theorem own_empty (W : World) (B : Nat) (hB : B ≤ W.heap.size) : (W.alloc (.cells #[] 5)).ownsRow B 5 1 (.slice (some ⟨W.heap.size, 0, none⟩) 0 0) 0 [] :=
  ⟨rfl, .inr ⟨W.heap.size, 0, #[], rfl, hB, heap_alloc_new W _, by omega, by unfold maxLen; omega, by simp, by simp⟩⟩
/-- What is left of a list, from a place on. -/
theorem RS.drop {w : World} {B b off : Nat} {xs : List Int} (h : RS w B (some ⟨b, off, none⟩) xs) (i o' : Nat) (ho : i < xs.length → o' = off + i) : RS w B (some ⟨b, o', none⟩) (xs.drop i) := fun hn => by
  have hi : i < xs.length := by
    rcases Nat.lt_or_ge i xs.length with h1 | h1
    · exact h1
    · exact absurd (List.drop_of_length_le h1) hn
  obtain ⟨b', off', e, hb, hc⟩ := h (by rintro rfl; simp at hi)
  obtain ⟨rfl, rfl⟩ : b = b' ∧ off = off' := by simpa using e
  refine ⟨b, o', rfl, hb, fun k hk => ?_⟩
  have hk' : i + k < xs.length := by simp at hk; omega
  rw [ho hi, Nat.add_assoc, List.getElem?_drop]
  exact hc _ hk'

theorem own_form4 {w : World} {base : Nat} {e : TypeId} {size : Nat} {v : Value} {k : Nat} {xs : List Value} (h : w.ownsRow base e size v k xs) :
    ∃ A c, v = .slice A k c ∧ k ≤ c ∧ c ≤ 9223372036854775807 ∧ (A = none → k = 0 ∧ c = 0) ∧ (∀ ad, A = some ad → ∃ g, ad = ⟨g, 0, none⟩) := by
  rcases h.2 with ⟨rfl, rfl⟩ | ⟨g, cap, cur, rfl, _, _, h1, h2, _⟩
  · exact ⟨none, 0, rfl, Nat.le_refl _, by omega, (fun _ => ⟨rfl, rfl⟩), (fun _ e => by cases e)⟩
  · exact ⟨_, cap, rfl, h1, h2, (fun e => by cases e), (fun ad e => ⟨g, (Option.some.inj e).symm⟩)⟩
theorem bs_lot {w : World} {B : Nat} {A : Option Addr} {zs : List Nat} (h : BS w B A zs) : ∀ ad, A = some ad → ∀ (j : Nat) (u : Value), (zs.map encB)[j]? = some u → w.cell? (ad.add j) = some u := fun ad hA j u hu => by
  by_cases hz : zs = []
  · subst hz; simp at hu
  · obtain ⟨b, off, e, _, hc⟩ := h.2 hz
    rw [hA] at e
    cases e
    exact bs_news hc j u hu
theorem sc_at (ls : List Int) (j : Nat) (hj : j < ls.length) (h : scalarB (ls[j]?.getD 0) = true) (tl : List Int) : (scL (ls.take j)).length < (scL ls).length ∧ (scL ls ++ tl)[(scL (ls.take j)).length]?.getD 0 = ls[j]?.getD 0 := by
  have e : ls = ls.take j ++ (ls[j]?.getD 0 :: ls.drop (j + 1)) := by
    rw [List.getElem?_eq_getElem hj, Option.getD_some, List.getElem_cons_drop, List.take_append_drop]
  have e2 : scL ls = scL (ls.take j) ++ (ls[j]?.getD 0 :: scL (ls.drop (j + 1))) := by
    conv => lhs; rw [e]
    unfold scL
    rw [List.filter_append, List.filter_cons, if_pos h]
  constructor
  · rw [e2, List.length_append, List.length_cons]; omega
  · rw [e2, List.append_assoc, List.getElem?_append_right (Nat.le_refl _), Nat.sub_self]
    rfl
theorem sc_ints (ls : List Int) (more : List Nat) : intsOf (allL (putAll ls ++ more)) = scL ls ++ intsOf (allL more) := by
  rw [all_puts]
  unfold intsOf
  rw [List.map_append, List.map_map]
  congr 1
  refine (List.map_congr_left (g := id) fun r hr => ?_).trans (List.map_id _)
  have := (scalarB_bd (List.mem_filter.1 hr).2).1
  simp only [Function.comp, id]
  omega

set_option maxRecDepth 100000 in
set_option maxHeartbeats 8000000 in
theorem utfJoins_law (Al : Option Addr) (ls : List Int) (nl cl : Nat) (hnl : nl = ls.length) (hcapl : nl ≤ cl) (Ab : Option Addr) (zb : List Nat) (nb cb : Nat) (hnb : nb = zb.length) (hcapb : nb ≤ cb) (h63b : cb ≤ 9223372036854775807) (hAb : Ab = none → nb = 0 ∧ cb = 0) (w : World) (h4 : max 0 1 + 1 ≤ w.heap.size) (hT : UT w) (hRl : RS w w.heap.size Al ls) (hRb : BS w w.heap.size Ab zb) :
    Calls Tryd.prog 8 #[.slice Al nl cl, .slice Ab nb cb] w fun e w' => e = .returned (.bool true) ∧ Below w.heap.size w w' := by
  obtain ⟨i0, hi, hz0, hz1, hz2⟩ := info_parts Tryd.infoByte
  have HA := awake_hid h4 hT
  by_cases hl : 100 < nl
  · have hli : (100 : Int) < nl := by omega
    clear hnl hcapl hRl hnb hcapb hRb hT hAb
    go_enter Tryd.func8, Tryd.ntmps8
    go_wp2_with (go_at_call 10; refine (HA.out _ (Below.refl _ _)).mono ?_; rintro e w1 ⟨rfl, hb1⟩)
    go_ret
    exact ⟨rfl, hb1⟩
  by_cases hl' : 100 < nb
  · have hli : ¬ (100 : Int) < nl := by omega
    have hli' : (100 : Int) < nb := by omega
    clear hnl hcapl hRl hnb hcapb hRb hT hAb
    go_enter Tryd.func8, Tryd.ntmps8
    go_wp2_with (go_at_call 10; refine (HA.out _ (Below.refl _ _)).mono ?_; rintro e w1 ⟨rfl, hb1⟩)
    go_ret
    exact ⟨rfl, hb1⟩
  have hli : ¬ (100 : Int) < nl := by omega
  have hli' : ¬ (100 : Int) < nb := by omega
  have hda : decide ((100 : Int) < nl) = false := decide_eq_false hli
  have hdb : decide ((100 : Int) < nb) = false := decide_eq_false hli'
  have HT : Hid (∀ W, Below w.heap.size w W → UT W) := Lib.hid fun W hW => hT.below hW
  have HRl := Lib.hid hRl
  have HRb := Lib.hid hRb
  have HNl := Lib.hid hnl
  have HNb := Lib.hid hnb
  have HAb := Lib.hid hAb
  have H4 := Lib.hid h4
  clear hnl hnb hRl hRb hT hAb
  go_enter Tryd.func8, Tryd.ntmps8
  go_wp2
  go_loopw [5, 6, 7] (fun o q i wr => ∃ (k : Nat) (vo : Value), vo = o ∧ k ≤ nl ∧ i = .int .i64 k ∧ q = .int .i64 (scL (ls.take k)).length ∧ Hid (wr.ownsRow w.heap.size 5 1 vo (putAll (ls.take k)).length ((putAll (ls.take k)).map encB)) ∧ Hid (Below w.heap.size w wr)) (fun _ _ i _ => nl - (intOf i).toNat)
  case atStart => exact ⟨0, _, rfl, Nat.zero_le _, rfl, rfl, Lib.hid (World.ownsRow_nil _ _ _ _), Lib.hid (Below.refl _ _)⟩
  case round =>
    obtain ⟨k, vo, rfl, hkn, rfl, rfl, HO, HB⟩ := hrel
    by_cases hlt : k < nl
    · have hkz : k < ls.length := by rw [← HNl.out]; exact hlt
      obtain ⟨b, off, rfl, hbl, hc⟩ := HRl.out (by rintro rfl; simp at hkz)
      have hck := (HB.out.cell (p := ⟨b, off + k, none⟩) hbl).trans (hc k hkz)
      have HTK := Lib.hid (take_snocD ls k hkz)
      have hki : (k : Int) < nl := by omega
      have hsl := scL_len (ls.take k)
      have hpl := putAll_len (ls.take k)
      have htl : (ls.take k).length = k := by rw [List.length_take]; omega
      rw [htl] at hsl hpl
      clear hc hbl hkz htl
      generalize ls[k]?.getD 0 = r at *
      cases hs : scalarB r with
      | false =>
        have hp := put_no r hs wr
        have HP1 : Hid (putAll (ls.take (k + 1)) = putAll (ls.take k)) := Lib.hid (by rw [HTK.out, putAll_snoc, putL_no r hs, List.append_nil])
        have HS1 : Hid (scL (ls.take (k + 1)) = scL (ls.take k)) := Lib.hid (by rw [HTK.out, scL_no _ _ hs])
        clear hs
        go_wp2_with (go_at_call 14; (with_reducible refine hp.mono ?_); clear hp; rintro e w1 ⟨rfl, rfl⟩)
        go_roundw
        case rel => exact ⟨k + 1, _, rfl, by omega, by go_num, by rw [HS1.out], by rw [HP1.out]; exact HO, HB⟩
        case measure => simp [intOf]; omega
      | true =>
        have hp := put_yes r hs wr
        rw [enc_put r hs] at hp
        have hlen := putL_len r hs
        have HP1 : Hid (putAll (ls.take (k + 1)) = putAll (ls.take k) ++ putL r) := Lib.hid (by rw [HTK.out, putAll_snoc])
        have HS1 : Hid (scL (ls.take (k + 1)) = scL (ls.take k) ++ [r]) := Lib.hid (by rw [HTK.out, scL_yes _ _ hs])
        have HCL := Lib.hid (strCells_L (putL r) (putL_lt r))
        have HSZ := Lib.hid (strL_size (putL r))
        have hne : (strL (putL r)).toList.isEmpty = false := by
          rw [ByteArray.toList_eq]
          have h1 : (putL r) ≠ [] := List.length_pos_iff.1 hlen.1
          unfold strL
          simpa using h1
        have hne' : ¬ (strL (putL r)).toList = [] := by simpa using hne
        have hm1 : (putAll (ls.take k)).length + (strL (putL r)).size ≤ maxLen := by rw [HSZ.out]; unfold maxLen; omega
        have hm2 : (putAll (ls.take k)).length + (strL (putL r)).size ≤ 140737488355328 := by rw [HSZ.out]; omega
        clear hs
        go_wp2_with (first
          | (go_at_call 14; (with_reducible refine hp.mono ?_); clear hp; rintro e w1 ⟨rfl, rfl⟩)
          | (at_builtin; go_must (refine Lib.wpList_append_own_string _ rfl (.tmp 35) (.tmp 36) 22 9 rfl w.heap.size 5 i0 Tryd.underlying22 Tryd.underlying9 hi hz0 hz1 hz2 vo (putAll (ls.take k)).length ((putAll (ls.take k)).map encB) rfl HO.out (strL (putL r)) rfl hm1 hm2 HB.out.size ?_; intro v2 w2 hown2 hgrow2 _; have HO2 : Hid (w2.ownsRow w.heap.size 5 1 v2 (putAll (ls.take (k + 1))).length ((putAll (ls.take (k + 1))).map encB)) := Lib.hid (by rw [HP1.out, List.length_append, List.map_append, ← HSZ.out, ← HCL.out]; exact hown2); have HB2 : Hid (Below w.heap.size w w2) := Lib.hid (HB.out.grown hgrow2 HB.out.size (fun k e => (HO.out.lt k e).1)); clear hown2 hgrow2)))
        go_roundw
        case rel => exact ⟨k + 1, _, rfl, by omega, by go_num, by rw [HS1.out, List.length_append]; go_num, HO2, HB2⟩
        case measure => simp [intOf]; omega
    · obtain rfl : k = nl := by omega
      have htk : ls.take k = ls := List.take_of_length_le (by rw [← HNl.out]; exact Nat.le_refl _)
      rw [htk] at HO ⊢
      clear htk
      have hsl := scL_len ls
      have hpl := putAll_len ls
      have hrlb := rdL_len zb
      have hqb : (allL zb).length ≤ 1000 := by
        unfold allL
        rw [List.length_append, List.length_map]
        have := HNb.out
        split <;> simp <;> omega
      have hkl : k = ls.length := HNl.out
      obtain ⟨Av, cv, rfl, hAv, _⟩ := own_form2 HO.out
      have HAv := Lib.hid hAv
      have ha1 : 0 + (putAll ls).length ≤ maxLen := by unfold maxLen; omega
      have ha2 : (0 + (putAll ls).length) * 1 ≤ 140737488355328 := by omega
      have ha3 : (putAll ls).length + nb ≤ maxLen := by unfold maxLen; omega
      have ha4 : ((putAll ls).length + nb) * 1 ≤ 140737488355328 := by omega
      have HBS : Hid (w.heap.size ≤ (wr.alloc (.cells #[] 5)).heap.size) := Lib.hid (by have := HB.out.size; simp; omega)
      have HLEN : Hid ((allL (putAll ls ++ zb)).length = (scL ls).length + (allL zb).length) := Lib.hid (by
        have := congrArg List.length (sc_ints ls zb)
        simpa [intsOf] using this)
      have HALLN : (putAll ls).length + nb = (putAll ls ++ zb).length := by rw [List.length_append, ← HNb.out]
      have HAL1 : Hid (∀ (W : World) (A3 : Option Addr) (c3 : Nat), Below w.heap.size w W → (putAll ls).length + nb ≤ c3 → c3 ≤ 9223372036854775807 → BS W W.heap.size A3 (putAll ls ++ zb) → Calls Tryd.prog 12 #[.slice A3 ((putAll ls).length + nb) c3] W (AllPost (putAll ls ++ zb) W)) := Lib.hid fun W A3 c3 hW h1 h2 hb =>
        all_any A3 (putAll ls ++ zb) _ c3 HALLN (by omega) h1 h2 W (Nat.le_trans H4.out hW.size) (HT.out W hW) hb
      have HAL2 : Hid (∀ (W : World), Below w.heap.size w W → Calls Tryd.prog 12 #[.slice Ab nb cb] W (AllPost zb W)) := Lib.hid fun W hW =>
        all_any Ab zb nb cb HNb.out (by omega) hcapb h63b W (Nat.le_trans H4.out hW.size) (HT.out W hW) ((HRb.out.below hW).more hW.size)
      have HZ8 : Hid (∀ z ∈ putAll ls ++ zb, z < 256) := Lib.hid fun z hz => by
        rcases List.mem_append.1 hz with hz | hz
        · exact putAll_lt ls z hz
        · exact HRb.out.1 z hz
      unfold AllPost at HAL1 HAL2
      clear hAv hkl HALLN hpl hrlb
      go_wp2_with (first
        | (at_builtin; refine wpList_append_lot _ rfl (.tmp 40) (.tmp 41) 22 rfl w.heap.size 5 i0 (.int .u8 0) 1 1 Tryd.underlying22 hi hz0 hz1 hz2 rfl (by decide) (.slice (some ⟨wr.heap.size, 0, none⟩) 0 0) 0 [] rfl (own_empty wr w.heap.size HB.out.size) Av (putAll ls).length cv ((putAll ls).map encB) rfl HAv.out (by rw [List.length_map, Nat.mul_one]) (own_news (HO.out.alloc _)) (encB_one _) ha1 ha2 HBS.out ?_; intro v2 w2 hown2 hgrow2; simp only [Nat.zero_add, List.nil_append] at hown2; have HO2 := Lib.hid hown2; have HB2 : Hid (Below w.heap.size w w2) := Lib.hid ((HB.out.alloc HB.out.size _).grown hgrow2 HBS.out (fun k e => by cases e; exact HB.out.size)); clear hown2 hgrow2)
        | (at_builtin; go_must (refine wpList_append_lot _ rfl (.tmp 42) (.tmp 43) 22 rfl w.heap.size 5 i0 (.int .u8 0) 1 1 Tryd.underlying22 hi hz0 hz1 hz2 rfl (by decide) v2 (putAll ls).length ((putAll ls).map encB) rfl HO2.out Ab nb cb (zb.map encB) rfl HAb.out (by rw [List.length_map, Nat.mul_one, HNb.out]) (bs_lot (HRb.out.below HB2.out)) (encB_one _) ha3 ha4 HB2.out.size ?_; intro v3 w3 hown3 hgrow3; rw [← List.map_append] at hown3; have HB3 : Hid (Below w.heap.size w w3) := Lib.hid (HB2.out.grown hgrow3 HB2.out.size (fun k e => (HO2.out.lt k e).1)); obtain ⟨A3, c3, rfl, hl3, hm3, _, _⟩ := own_form4 hown3; have HX3 := Lib.hid (And.intro hl3 (And.intro hm3 (BS.of_own HZ8.out hown3))); clear hgrow3 hown3 hl3 hm3))
        | (go_at_call 12; (with_reducible refine (HAL1.out _ _ _ HB3.out HX3.out.1 HX3.out.2.1 HX3.out.2.2).mono ?_); clear HAL1; rintro e w4 ⟨v4, rfl, ho4, hb4⟩; rw [HLEN.out, ← intsOf_enc, sc_ints] at ho4; obtain ⟨A4, c4, rfl, hl4, hm4, hn4, hs4⟩ := own_form4 ho4; have HR4 := Lib.hid (RS.of_own ho4); have HB4 := Lib.hid (bel0 HB3.out hb4); have HN4 := Lib.hid hn4; have HS4 := Lib.hid hs4; clear ho4 hb4 hn4 hs4)
        | (go_at_call 12; (with_reducible refine (HAL2.out _ HB4.out).mono ?_); clear HAL2; rintro e w5 ⟨v5, rfl, ho5, hb5⟩; rw [← intsOf_enc] at ho5; obtain ⟨A5, c5, rfl, hl5, hm5, _, _⟩ := own_form4 ho5; have HR5 := Lib.hid (RS.of_own ho5); have HR45 := Lib.hid ((HR4.out.below hb5).more hb5.size); have HB5 := Lib.hid (bel0 HB4.out hb5); clear ho5 hb5))
      obtain ⟨wo, rfl⟩ : ∃ wo : World, wo = w5 := ⟨_, rfl⟩
      go_loopw [11, 12] (fun q i wr => ∃ j : Nat, j ≤ k ∧ i = .int .i64 j ∧ q = .int .i64 (scL (ls.take j)).length ∧ Hid (Below wo.heap.size wo wr)) (fun _ i _ => k - (intOf i).toNat)
      case atStart => exact ⟨0, Nat.zero_le _, rfl, rfl, Lib.hid (Below.refl _ _)⟩
      case round =>
        obtain ⟨j, hjk, rfl, rfl, HBj⟩ := hrel
        by_cases hlt' : j < k
        · have hjz : j < ls.length := by rw [← HNl.out]; exact hlt'
          obtain ⟨b, off, rfl, hbl, hc⟩ := HRl.out (by rintro rfl; simp at hjz)
          have hck := (HBj.out.cell (p := ⟨b, off + j, none⟩) (Nat.lt_of_lt_of_le hbl HB5.out.size)).trans ((HB5.out.cell (p := ⟨b, off + j, none⟩) hbl).trans (hc j hjz))
          have HTK := Lib.hid (take_snocD ls j hjz)
          have hki : (j : Int) < k := by omega
          have hslj := scL_len (ls.take j)
          have htl : (ls.take j).length = j := by rw [List.length_take]; omega
          rw [htl] at hslj
          cases hs : scalarB (ls[j]?.getD 0) with
          | false =>
            clear hc hbl hjz htl
            generalize ls[j]?.getD 0 = r at *
            have hp := put_no r hs wr
            have HS1 : Hid (scL (ls.take (j + 1)) = scL (ls.take j)) := Lib.hid (by rw [HTK.out, scL_no _ _ hs])
            clear hs
            go_wp2_with (go_at_call 14; (with_reducible refine hp.mono ?_); clear hp; rintro e w1 ⟨rfl, rfl⟩)
            go_roundw
            case rel => exact ⟨j + 1, by omega, by go_num, by rw [HS1.out], HBj⟩
            case measure => simp [intOf]; omega
          | true =>
            obtain ⟨hx1, hx2⟩ := sc_at ls j hjz hs (intsOf (allL zb))
            have hne4 : scL ls ++ intsOf (allL zb) ≠ [] := by intro e; have := congrArg List.length e; simp at this; rw [this.1] at hx1; simp at hx1
            obtain ⟨bg, og, rfl, hbg, hcg⟩ := HR45.out hne4
            have hcg' := (HBj.out.cell (p := ⟨bg, og + (scL (ls.take j)).length, none⟩) hbg).trans (hcg (scL (ls.take j)).length (by rw [List.length_append]; omega))
            rw [hx2] at hcg'
            clear hc hbl hjz htl hcg hne4 hx2 hbg
            generalize ls[j]?.getD 0 = r at *
            have hp := put_yes r hs wr
            rw [enc_put r hs] at hp
            have hlen := putL_len r hs
            have HS1 : Hid ((scL (ls.take (j + 1))).length = (scL (ls.take j)).length + 1) := Lib.hid (by rw [HTK.out, scL_yes _ _ hs, List.length_append]; rfl)
            have hne : (strL (putL r)).toList.isEmpty = false := by
              rw [ByteArray.toList_eq]
              have h1 : (putL r) ≠ [] := List.length_pos_iff.1 hlen.1
              unfold strL
              simpa using h1
            have hne' : ¬ (strL (putL r)).toList = [] := by simpa using hne
            clear hs
            generalize (scL (ls.take j)).length = q at *
            have hqi : (q : Int) < (scL ls).length + (allL zb).length := by omega
            go_wp2_with (go_at_call 14; (with_reducible refine hp.mono ?_); clear hp; rintro e w1 ⟨rfl, rfl⟩)
            go_region
            all_goals
              go_wp2
              go_roundw
              case rel => exact ⟨j + 1, by omega, by go_num, by rw [HS1.out]; go_num, Lib.hid HBj.out.drew⟩
              case measure => simp [intOf]; omega
        · obtain rfl : j = k := by omega
          have htk : ls.take j = ls := List.take_of_length_le (by rw [← HNl.out]; exact Nat.le_refl _)
          rw [htk]
          clear htk
          have HDROP : Hid ((scL ls ++ intsOf (allL zb)).drop (scL ls).length = intsOf (allL zb)) := Lib.hid List.drop_left
          have HLN : Hid ((scL ls ++ intsOf (allL zb)).length = (scL ls).length + (allL zb).length) := Lib.hid (by simp [intsOf])
          have HQL : Hid ((intsOf (allL zb)).length = (allL zb).length) := Lib.hid (by simp [intsOf])
          have HBW := Lib.hid (bel0 HB5.out HBj.out)
          have HR5' := Lib.hid ((HR5.out.below HBj.out).more HBj.out.size)
          have HR4' := Lib.hid ((HR45.out.below HBj.out).more HBj.out.size)
          have hc4 : (scL ls).length ≤ c4 := by omega
          clear HR5 HR45 HB5 HRl HRb HNl HNb HT HO2 HR4 HX3 HO
          have HS : Hid (∀ (W : World) (A1 A2 : Option Addr) (n1 c1 c2 : Nat), n1 = (allL zb).length → RS W W.heap.size A1 (intsOf (allL zb)) → RS W W.heap.size A2 (intsOf (allL zb)) → Calls Tryd.prog 11 #[.slice A1 n1 c1, .slice A2 (allL zb).length c2] W fun e w' => e = .returned (.bool true) ∧ Below W.heap.size W w') := Lib.hid fun W A1 A2 n1 c1 c2 hn r1 r2 => by
            subst hn
            have := same_any A1 A2 _ _ (allL zb).length (allL zb).length c1 c2 HQL.out.symm HQL.out.symm (by omega) W r1 r2
            rw [sameB_refl] at this
            exact this
          generalize (scL ls).length = s at *
          generalize (allL zb).length = q at *
          generalize intsOf (allL zb) = zl at *
          rcases A4 with _ | ad
          · obtain ⟨h1, rfl⟩ := HN4.out rfl
            obtain rfl : s = 0 := by omega
            obtain rfl : q = 0 := by omega
            have hzl : zl = [] := List.length_eq_zero_iff.1 HQL.out
            have HRN : Hid (∀ W, RS W W.heap.size none zl) := Lib.hid fun W hne => absurd hzl hne
            clear hzl
            rw [show 0 + 0 = 0 from rfl, show ((0 : Nat) : Int) = 0 from rfl]
            go_wp2_with (first
              | (go_at_call 11; (with_reducible refine (HS.out _ _ _ _ _ _ rfl (HRN.out _) HR5'.out).mono ?_); rintro e w6 ⟨rfl, hb6⟩; have HB6 := Lib.hid (bel0 HBW.out hb6))
              | (go_at_call 10; refine (HA.out _ HB6.out).mono ?_; rintro e w7 ⟨rfl, hb7⟩))
            go_ret
            exact ⟨rfl, bel0 HB6.out hb7⟩
          · obtain ⟨g4, rfl⟩ := HS4.out ad rfl
            have HDD : Hid (∀ o' : Nat, (0 < q → o' = s) → RS wr wr.heap.size (some ⟨g4, o', none⟩) zl) := Lib.hid fun o' ho => by
              have := RS.drop HR4'.out s o' (fun h => by rw [HLN.out] at h; rw [Nat.zero_add]; exact ho (by omega))
              rw [HDROP.out] at this
              exact this
            have hsi : (s : Int) ≤ (s : Int) + q := by omega
            have hsi' : (s : Int) ≤ c4 := by omega
            by_cases hcs : c4 = s
            · subst hcs
              obtain rfl : q = 0 := by omega
              have HD0 := Lib.hid (HDD.out 0 (by omega))
              go_wp2_with (first
                | (go_at_call 11; (with_reducible refine (HS.out _ _ _ _ _ _ (by omega) HD0.out HR5'.out).mono ?_); rintro e w6 ⟨rfl, hb6⟩; have HB6 := Lib.hid (bel0 HBW.out hb6))
                | (go_at_call 10; refine (HA.out _ HB6.out).mono ?_; rintro e w7 ⟨rfl, hb7⟩))
              go_ret
              exact ⟨rfl, bel0 HB6.out hb7⟩
            · have HD0 := Lib.hid (HDD.out s (fun _ => rfl))
              go_wp2_with (first
                | (go_at_call 11; (with_reducible refine (HS.out _ _ _ _ _ _ (by omega) HD0.out HR5'.out).mono ?_); rintro e w6 ⟨rfl, hb6⟩; have HB6 := Lib.hid (bel0 HBW.out hb6))
                | (go_at_call 10; refine (HA.out _ HB6.out).mono ?_; rintro e w7 ⟨rfl, hb7⟩))
              go_ret
              exact ⟨rfl, bel0 HB6.out hb7⟩

end Go.Proofs.YtdhmpnjodcjjpaaDoor
