/- The document's With and List. -/
import Derived.Test.YtabipecpkbjdkaaTc
namespace Go.Proofs.Ytabipecpkbjdkaa
open Go.RowKit

theorem BS.slot {w : World} {B : Nat} {v : Value} {l : List Bool} (h : BS w B v l) (hl : 0 < l.length) :
    ∃ g c, v = .slice (some ⟨g, 0, none⟩) l.length c ∧ B ≤ g ∧ g < w.heap.size ∧ (∀ k, k < l.length → w.cell? ⟨g, k, none⟩ = some (.bool (l[k]?.getD false))) ∧ (∀ k, w.frozen? ⟨g, k, none⟩ = false) ∧
      ∀ k u, BS (w.setCell ⟨g, k, none⟩ (.bool u)) B (.slice (some ⟨g, 0, none⟩) l.length c) (l.set k u) := by
  obtain ⟨A, c, rfl, hA⟩ := own_form h
  obtain ⟨g, rfl⟩ := hA hl
  have h' : w.ownsRow B 4 1 (.slice (some ⟨g, 0, none⟩) l.length c) l.length (l.map Value.bool) := h
  refine ⟨g, c, rfl, (h'.lt g rfl).1, (h'.lt g rfl).2, fun k hk => ?_, fun k => h'.frozenAt k, fun k u => ?_⟩
  · rw [h'.cellAt k (by omega)]
    simp [hk]
  · have := (h'.stored k (.bool u)).1
    unfold BS
    rw [List.length_set, List.map_set]
    exact this

def onX (l : List Bool) (x : Int) (v : Bool) : List Bool := putB l x v
set_option maxHeartbeats 1000000 in
theorem with_any (A : Option Addr) (l : List Bool) (n cp : Nat) (x : Int) (on : Bool) (hn : n = l.length) (h2 : 2 ≤ n) (h3 : n ≤ 1000) (w : World) (hR : RB w w.heap.size A l) :
    Calls Try.prog 12 #[.slice A n cp, .int .i64 x, .bool on] w (BoolsPost (putB l x on) w) := by
  obtain ⟨i0, hi, hz0, hz1, hz2⟩ := info_parts Try.infoBool
  obtain ⟨b, rfl, hbl, hcx⟩ := hR (fun e => by rw [e] at hn; simp at hn; omega)
  have HEX : Hid ((w.alloc (.cells #[] 4)).ownsRow w.heap.size 4 1 (.slice (some ⟨w.heap.size, 0, none⟩) 0 0) 0 []) := Lib.hid (World.ownsRow_lit w #[] 0 (Nat.le_refl _) (by unfold maxLen; omega) rfl)
  have HNEW : Hid (∀ (j : Nat) (u : Value), (l.map Value.bool)[j]? = some u → (w.alloc (.cells #[] 4)).cell? ((⟨b, 0, none⟩ : Addr).add j) = some u) := Lib.hid fun j u hj => by
    have hadd : (⟨b, 0, none⟩ : Addr).add j = ⟨b, j, none⟩ := by unfold Addr.add; split <;> simp_all
    rw [hadd, World.cell?_alloc_past _ _ _ hbl]
    simp only [List.getElem?_map] at hj
    by_cases hjl : j < l.length
    · rw [hcx j hjl]
      simpa [hjl] using hj
    · simp [List.getElem?_eq_none (Nat.not_lt.1 hjl)] at hj
  have HONE : Hid (∀ u ∈ l.map Value.bool, u.oneCell' = true) := Lib.hid fun u hu => by
    obtain ⟨y, _, rfl⟩ := List.mem_map.1 hu
    rfl
  have HLEN : Hid ((l.map Value.bool).length = n * 1) := Lib.hid (by simp [hn])
  have HB0 : Hid (Below w.heap.size w (w.alloc (.cells #[] 4))) := Lib.hid (belA (Below.refl _ w) _)
  have hlen : l.length = n := hn.symm
  have HN := Lib.hid hn
  unfold BoolsPost
  by_cases hb : colB l.length x = true
  · obtain ⟨h0, h1⟩ := colB_yes hb
    obtain ⟨k, rfl⟩ := Int.eq_ofNat_of_zero_le h0
    have hkn : k < n := by omega
    have hki : (k : Int) < n := by omega
    have HPUT : Hid (putB l (k : Int) on = l.set k on) := Lib.hid (by unfold putB; rw [if_pos hb, Int.toNat_natCast])
    rw [HPUT.out]
    clear hR hcx hb h0 h1 HPUT hn hlen
    generalize hL : l.map Value.bool = L at *
    have HL := Lib.hid hL
    clear hL
    go_enter Try.func12, Try.ntmps12
    go_wp2_with (at_builtin; go_must (refine wpList_append_own _ rfl _ _ 30 rfl w.heap.size 4 i0 (.bool false) 1 1 Try.underlying30 hi hz0 hz1 hz2 rfl (by decide) (.slice (some ⟨w.heap.size, 0, none⟩) 0 0) 0 [] rfl HEX.out ⟨b, 0, none⟩ n cp L rfl HLEN.out HNEW.out HONE.out (by unfold maxLen; omega) (by omega) (by simp) ?_; intro v2 w5 hown2 hgrow2 _; have HB5 := Lib.hid (HB0.out.grown hgrow2 (by simp) (fun j e => by cases e; exact Nat.le_refl _)); have HV : BS w5 w.heap.size v2 l := by { unfold BS; rw [← HN.out, HL.out]; simpa using hown2 }; clear hown2 hgrow2; obtain ⟨g, c2, rfl, hgb, hglt, hgc, hgf, hgs⟩ := HV.slot (by have := HN.out; omega); have hck := hgc k (by rw [← HN.out]; exact hkn); have hfk := hgf k; have HS5 := Lib.hid (hgs k on); have HG5 := Lib.hid (HB5.out.setCell (p := ⟨g, k, none⟩) hgb (.bool on)); rw [← HN.out] at HS5 ⊢; clear hgc hgf hgs HV))
    go_ret
    exact ⟨_, rfl, HS5.out, HG5.out⟩
  · have hb' : colB l.length x = false := by simpa using hb
    have hno := colB_no hb'
    have HPUT : Hid (putB l x on = l) := Lib.hid (by unfold putB; rw [if_neg (by rw [hb']; decide)])
    rw [HPUT.out]
    have hge : decide (x < 0) = true ∨ (decide (x < 0) = false ∧ decide (x < (n : Int)) = false) := by
      by_cases h : x < 0
      · exact .inl (decide_eq_true h)
      · exact .inr ⟨decide_eq_false (by omega), decide_eq_false (by omega)⟩
    clear hR hcx hb hb' hno HPUT hn hlen
    generalize hL : l.map Value.bool = L at *
    have HL := Lib.hid hL
    clear hL
    rcases hge with hge | ⟨hge, hge2⟩
    all_goals
      have hge3 := hge
      simp only [decide_eq_true_eq, decide_eq_false_iff_not] at hge3
      first
        | (have hge4 : decide (0 ≤ x) = true := decide_eq_true (by omega))
        | (have hge4 : decide (0 ≤ x) = false := decide_eq_false (by omega))
      clear hge3
      go_enter Try.func12, Try.ntmps12
      go_wp2_with (at_builtin; go_must (refine wpList_append_own _ rfl _ _ 30 rfl w.heap.size 4 i0 (.bool false) 1 1 Try.underlying30 hi hz0 hz1 hz2 rfl (by decide) (.slice (some ⟨w.heap.size, 0, none⟩) 0 0) 0 [] rfl HEX.out ⟨b, 0, none⟩ n cp L rfl HLEN.out HNEW.out HONE.out (by unfold maxLen; omega) (by omega) (by simp) ?_; intro v2 w5 hown2 hgrow2 _; have HB5 := Lib.hid (HB0.out.grown hgrow2 (by simp) (fun j e => by cases e; exact Nat.le_refl _)); have HV : Hid (BS w5 w.heap.size v2 l) := Lib.hid (by { unfold BS; rw [← HN.out, HL.out]; simpa using hown2 }); clear hown2 hgrow2))
      go_ret
      exact ⟨_, rfl, HV.out, HB5.out⟩

set_option maxHeartbeats 1000000 in
theorem refList_any (A : Option Addr) (l : List Bool) (n cp : Nat) (hn : n = l.length) (h3 : n ≤ 1000) (w : World) (hR : RB w w.heap.size A l) :
    Calls Try.prog 20 #[.slice A n cp] w (IntsPost (idxL l) w) := by
  obtain ⟨i0, hi, hz0, hz1, hz2⟩ := info_parts Try.infoInt
  have HR := Lib.hid hR
  have HN := Lib.hid hn
  clear hR hn
  unfold IntsPost
  go_enter Try.func20, Try.ntmps20
  go_wp2
  go_loopw [3, 4] (fun v i wr => ∃ (k : Nat) (vo : Value), vo = v ∧ k ≤ n ∧ i = .int .i64 k ∧ Hid (wr.ownsRow w.heap.size 3 1 vo (idxK l k).length ((idxK l k).map (Value.int .i64))) ∧ Hid (Below w.heap.size w wr)) (fun _ i _ => n - (intOf i).toNat)
  case atStart => exact ⟨0, _, rfl, Nat.zero_le _, rfl, Lib.hid (World.ownsRow_nil _ _ _ _), Lib.hid (Below.refl _ _)⟩
  case round =>
    obtain ⟨k, vo, rfl, hkn, rfl, HO, HB⟩ := hrel
    by_cases hlt : k < n
    · obtain ⟨b, rfl, hbl, hcx⟩ := HR.out (fun e => by have := HN.out; rw [e] at this; simp at this; omega)
      have hck := (HB.out.cell (p := ⟨b, k, none⟩) hbl).trans (hcx k (by rw [← HN.out]; exact hlt))
      have hki : (k : Int) < n := by omega
      have hle := idxK_le l k
      have hsz := HB.out.size
      by_cases hv : l[k]?.getD false = true
      · have HX := Lib.hid (idxK_yes l k hv)
        rw [hv] at hck
        clear hv HN HR hcx hbl
        generalize hL : idxK l k = L at *
        clear hL
        go_wp2_with (at_builtin; go_must (refine wpList_append_own _ rfl _ _ 39 rfl w.heap.size 3 i0 (.int .i64 0) 1 8 Try.underlying39 hi hz0 hz1 hz2 rfl (by decide) vo L.length (L.map (Value.int .i64)) rfl (HO.out.alloc _) ⟨wr.heap.size, 0, none⟩ 1 1 [.int .i64 k] rfl rfl (news1 wr _ _) (by simp [Value.oneCell']) (by unfold maxLen; omega) (by omega) (by simp; omega) ?_; intro v2 w5 hown2 hgrow2 _; have HO2 := Lib.hid hown2; have HB5 := Lib.hid ((HB.out.alloc hsz _).grown hgrow2 (by simp; omega) (fun j e => (HO.out.lt _ e).1)); clear hown2 hgrow2))
        go_roundw
        case rel => exact ⟨k + 1, v2, rfl, hlt, by go_num, by rw [HX.out, List.map_append, List.length_append]; exact HO2, HB5⟩
        case measure => simp [intOf]; omega
      · have hv' : l[k]?.getD false = false := by simpa using hv
        have HX := Lib.hid (idxK_no l k hv')
        rw [hv'] at hck
        clear hv hv' HN HR hcx hbl
        go_wp2
        go_roundw
        case rel => exact ⟨k + 1, vo, rfl, hlt, by go_num, by rw [HX.out]; exact HO, HB⟩
        case measure => simp [intOf]; omega
    · obtain rfl : k = n := by omega
      have HE : Hid (idxK l k = idxL l) := Lib.hid (by unfold idxL; rw [HN.out])
      clear HN HR
      go_wp2
      go_ret
      refine ⟨_, rfl, ?_, HB.out⟩
      rw [← HE.out]
      exact HO.out

end Go.Proofs.Ytabipecpkbjdkaa
