/- The walk of flow.Split. -/
import Derived.Test.YtfjgfmeanehpmaaHi
namespace Go.Proofs.Ytfjgfmeanehpmaa
open Go.RowKit

theorem IC.more {B B' : Nat} {w : World} {r : Raw} {x : Rw} (h : IC B w r x) (hB : B' ≤ B) : IC B' w r x := by
  obtain ⟨h1, h2, h3, h4⟩ := h
  exact ⟨h1, h2, h3, h4.imp id fun ⟨g, e, hg, hm⟩ => ⟨g, e, Nat.le_trans hB hg, hm⟩⟩
theorem own_moreK {w : World} {B B' : Nat} {e : TypeId} {z : Nat} {v : Value} {n : Nat} {L : List Value} (h : w.ownsRow B e z v n L) (hb : B' ≤ B) : w.ownsRow B' e z v n L :=
  ⟨h.1, h.2.imp id fun ⟨g, cap, cur, a1, a2, a3⟩ => ⟨g, cap, cur, a1, Nat.le_trans hb a2, a3⟩⟩
theorem ORW.more {B B' : Nat} {w : World} {v : Value} {L : List Rw} (h : ORW B w v L) (hB : B' ≤ B) : ORW B' w v L := by
  obtain ⟨raw, h1, h2, h3⟩ := h
  exact ⟨raw, h1, own_moreK h2 hB, fun i r x hr hx => (h3 i r x hr hx).more hB⟩
/-- What Split has laid so far, and what is left. -/
def splitAt (m : Nat) (l : List CC) (done : List Rw) (rest : List CC) : Prop := splitL m l = done ++ (if rest = [] then [] else lay m true [] rest)
theorem splitAt_first (m : Nat) (h2 : 2 ≤ m) (l : List CC) : splitAt m l [⟨cutR1 m (mendL (unpad l)), false⟩] (cutR2 m (mendL (unpad l))) := by
  unfold splitAt splitL
  rw [lay_cut m h2]
  rfl
theorem splitAt_next {m : Nat} (h2 : 2 ≤ m) {l : List CC} {done : List Rw} {rest : List CC} (h : splitAt m l done rest) (hne : rest ≠ []) : splitAt m l (done ++ [⟨cutR1 m rest, true⟩]) (cutR2 m rest) := by
  unfold splitAt at h ⊢
  rw [h, if_neg hne, lay_cut m h2, List.append_assoc]
  rfl
theorem splitAt_end {m : Nat} {l : List CC} {done : List Rw} (h : splitAt m l done []) : splitL m l = done := by
  unfold splitAt at h
  rw [if_pos rfl, List.append_nil] at h
  exact h
theorem splitAt_len {m : Nat} {l : List CC} {done : List Rw} {rest : List CC} (h : splitAt m l done rest) (hne : rest ≠ []) : done.length + 1 ≤ l.length + 1 := by
  unfold splitAt at h
  rw [if_neg hne] at h
  have h1 := (lay_len m (mendL (unpad l)) false []).2
  have h2 := (lay_len m rest true []).1
  have h3 := congrArg List.length h
  rw [mendL_len, unpad_len] at h1
  unfold splitL at h3
  rw [List.length_append] at h3
  omega
def lenV : Value → Nat
  | .slice _ n _ => n
  | _ => 0
set_option maxRecDepth 100000 in
set_option maxHeartbeats 8000000 in
theorem split_none (A : Option Addr) (n c : Nat) (z : Int) (hz : ¬ (2 ≤ z ∧ z ≤ 1000)) (w : World) :
    Calls Try.prog 17 #[.slice A n c, .int .i64 z] w fun e w' => e = .returned (.slice none 0 0) ∧ w' = w := by
  have HW := Lib.hid (isWidth_any z w)
  rw [decide_eq_false hz] at HW
  clear hz
  go_enter Try.func17, Try.ntmps17
  go_wp2_with (go_at_call 34; (with_reducible refine (HW.out).mono ?_); rintro e w1 ⟨rfl, rfl⟩)
  go_ret
  exact ⟨rfl, rfl⟩
set_option maxRecDepth 100000 in
set_option maxHeartbeats 8000000 in
theorem split_any (A : Option Addr) (l : List CC) (n c m : Nat) (hn : n = l.length) (h2 : 2 ≤ m) (hm : m ≤ 1000) (hl : n ≤ 100000) (w : World) (h : RC w w.heap.size A l) :
    Calls Try.prog 17 #[.slice A n c, .int .i64 m] w fun e w' => ∃ v, e = .returned v ∧ ORW w.heap.size w' v (splitL m l) ∧ Below w.heap.size w w' := by
  have HW := Lib.hid (isWidth_any (m : Int) w)
  rw [decide_eq_true (by omega)] at HW
  have HP : Hid (Calls Try.prog 36 #[.slice A n c] w fun e w' => ∃ A1 c1, e = .returned (.slice A1 n c1) ∧ RC w' w'.heap.size A1 (unpad l) ∧ Below w.heap.size w w') := Lib.hid <| (withoutPads_any A l n c hn hl w h).mono fun e w' ⟨v, he, ho, hb⟩ => by
    obtain ⟨A1, c1, hv, _, hr⟩ := ho.form'
    rw [unpad_len, ← hn] at hv
    subst hv
    exact ⟨A1, c1, he, hr, hb⟩
  have HM : Hid (∀ W A1 c1, Below w.heap.size w W → RC W W.heap.size A1 (unpad l) → Calls Try.prog 32 #[.slice A1 n c1] W fun e w' => ∃ A2 c2, e = .returned (.slice A2 n c2) ∧ n ≤ c2 ∧ RC w' w'.heap.size A2 (mendL (unpad l)) ∧ Below w.heap.size w w') := Lib.hid fun W A1 c1 hW hR => (mend_big A1 (unpad l) n c1 (by rw [unpad_len]; exact hn) hl W hR).mono fun e w' ⟨v, he, ho, hb⟩ => by
    obtain ⟨A2, c2, hv, hc2, hr⟩ := ho.form'
    rw [mendL_len, unpad_len, ← hn] at hv hc2
    subst hv
    exact ⟨A2, c2, he, hc2, hr, bel0 hW hb⟩
  have HC : Hid (∀ W A2 (f : List CC) n2 c2, n2 = f.length → n2 ≤ c2 → RC W W.heap.size A2 f → Calls Try.prog 35 #[.slice A2 n2 c2, .int .i64 m] W fun e w' => ∃ g A' n' c', e = .returned (.tuple #[.slice (some ⟨g, 0, none⟩) m m, .slice A' n' c']) ∧ W.heap.size ≤ g ∧ MC w' g (cutR1 m f) ∧ n' = (cutR2 m f).length ∧ n' ≤ c' ∧ (∀ V, RC V V.heap.size A2 f → RC V V.heap.size A' (cutR2 m f)) ∧ Below W.heap.size W w') := Lib.hid fun W A2 f n2 c2 h1 h3 hR => cut_any A2 f n2 c2 m h1 h3 h2 hm W hR
  have HN := Lib.hid hn
  have HML : Hid (n = (mendL (unpad l)).length) := Lib.hid (by rw [mendL_len, unpad_len]; exact hn)
  obtain ⟨i0, hi0, hz0, hz1, hz2⟩ := info_parts infoRow
  clear h hn
  go_enter Try.func17, Try.ntmps17
  go_wp2_with (first
    | (go_at_call 34; (with_reducible refine (HW.out).mono ?_); rintro e w1 ⟨rfl, rfl⟩)
    | (go_at_call 36; (with_reducible refine (HP.out).mono ?_); rintro e w1 ⟨A1, c1, rfl, hr, hb⟩; have HB1 := Lib.hid hb; have HR1 := Lib.hid hr; clear hb hr)
    | (go_at_call 32; (with_reducible refine (HM.out _ _ _ HB1.out HR1.out).mono ?_); rintro e w2 ⟨A2, c2, rfl, hc2, hr, hb⟩; have HB2 := Lib.hid hb; have HR2 := Lib.hid hr; have HC2 := Lib.hid hc2; clear hb hr hc2)
    | (go_at_call 35; (with_reducible refine (HC.out _ _ _ _ _ HML.out HC2.out HR2.out).mono ?_); rintro e w3 ⟨g3, A3, n3, c3, rfl, hg, hm3, hn3, hc3, hR, hb⟩; have HG3 := Lib.hid hg; have HM3 := Lib.hid hm3; have HN3 := Lib.hid hn3; have HC3 := Lib.hid hc3; have HR3 := Lib.hid hR; have HB3 := Lib.hid hb; clear hg hm3 hn3 hc3 hR hb))
  have HST : Hid (∃ done rest, splitAt m l done rest ∧ done.length = 1 ∧ n3 = rest.length ∧ n3 ≤ c3 ∧ (∀ W, Below w2.heap.size w2 W → RC W W.heap.size A3 rest) ∧ ORW w2.heap.size (w3.alloc (.cells #[.slice (some ⟨g3, 0, none⟩) m m, .bool false] 31)) (.slice (some ⟨w3.heap.size, 0, none⟩) 1 1) done) := Lib.hid (by
    refine ⟨_, _, splitAt_first m h2 l, rfl, HN3.out, HC3.out, fun W hW => HR3.out W (HR2.out.past hW), ?_⟩
    have hc1 : (cutR1 m (mendL (unpad l))).length = m := by
      have := lay_cols m h2 (mendL (unpad l)) false [] (by simp)
      rw [lay_cut m h2] at this
      exact this _ (List.mem_cons_self ..)
    exact ORW.first (r := ⟨some ⟨g3, 0, none⟩, m, m, false⟩) w3 HB3.out.size ⟨hc1.symm, Nat.le_refl _, rfl, .inr ⟨g3, rfl, HG3.out, HM3.out⟩⟩)
  have HBS := Lib.hid (belA HB3.out (.cells #[.slice (some ⟨g3, 0, none⟩) m m, .bool false] 31))
  clear HG3 HM3 HN3 HC3 HR3 HR1 HP HM HW HB1 HR2
  go_loopw [6, 7] (fun s6 s7 wr => ∃ (A' : Option Addr) (n' c' k : Nat) (vo : Value), s6 = .slice A' n' c' ∧ vo = s7 ∧ k ≤ n + 1 ∧ Hid (∃ done rest, splitAt m l done rest ∧ done.length = k ∧ n' = rest.length ∧ n' ≤ c' ∧ (∀ W, Below w2.heap.size w2 W → RC W W.heap.size A' rest) ∧ ORW w2.heap.size wr vo done) ∧ Hid (Below w2.heap.size w2 wr)) (fun s6 _ _ => lenV s6)
  case atStart => exact ⟨A3, n3, c3, 1, _, rfl, rfl, by omega, HST, HBS⟩
  case round =>
    obtain ⟨A', n', c', k, vo, rfl, rfl, hk, HS, HB⟩ := hrel
    by_cases h0 : 0 < n'
    · have h0i : (0 : Int) < n' := by omega
      obtain ⟨done, rest, hs1, hs2, hs3, hs4, hs5, hs6⟩ := HS.out
      have hne : rest ≠ [] := fun e => by rw [e] at hs3; simp at hs3; omega
      have hlen := splitAt_len hs1 hne
      obtain ⟨raw, r1, r2, r3⟩ := hs6
      rw [hs2] at r2
      obtain ⟨Ao, co, rfl, _⟩ := own_formK r2
      have HCC := Lib.hid (HC.out wr A' rest n' c' hs3 hs4 (hs5 _ HB.out))
      have hkn : k + 1 ≤ n + 1 := by have := HN.out; omega
      have hlt' := cutR2_lt m h2 rest hne
      rw [← hs3] at hlt'
      have HOWN : Hid (∀ W, Below wr.heap.size wr W → W.ownsRow w2.heap.size 31 2 (.slice Ao k co) k (rowsV encW raw)) := Lib.hid fun W hW => own_pastK r2 hW
      have HEND : Hid (∀ W W' w5 v5 g A2 n2 c2, Below wr.heap.size wr W → wr.heap.size ≤ g → MC W g (cutR1 m rest) → n2 = (cutR2 m rest).length → n2 ≤ c2 → (∀ V, RC V V.heap.size A' rest → RC V V.heap.size A2 (cutR2 m rest)) → Below W.heap.size W W' → w5.ownsRow w2.heap.size 31 2 v5 (k + 1) (rowsV encW raw ++ encW ⟨some ⟨g, 0, none⟩, m, m, true⟩) → W'.grownBy w5 (Value.slice Ao k co).ownBlock → n2 < n' ∧ (∃ done rest, splitAt m l done rest ∧ done.length = k + 1 ∧ n2 = rest.length ∧ n2 ≤ c2 ∧ (∀ W, Below w2.heap.size w2 W → RC W W.heap.size A2 rest) ∧ ORW w2.heap.size w5 v5 done) ∧ Below w2.heap.size w2 w5) := Lib.hid fun W W' w5 v5 g A2 n2 c2 hW hg hm hn2 hc2 hR hW' h5 hg5 => by
        have hbW := bel0 (bel0 HB.out hW) hW'
        have hc1 : (cutR1 m rest).length = m := by
          have := lay_cols m h2 rest true [] (by simp)
          rw [lay_cut m h2] at this
          exact this _ (List.mem_cons_self ..)
        refine ⟨by rw [hn2]; exact hlt', ⟨_, _, splitAt_next h2 hs1 hne, by simp [hs2], hn2, hc2, fun V hV => hR V (hs5 V hV), ?_⟩, own_below (own_pastK r2 (bel0 hW hW')) hbW hbW.size hg5⟩
        have r2' := own_pastK r2 (bel0 hW hW')
        rw [← hs2] at r2' h5 hg5
        exact ORW.snoc r1 r2' (fun i r x hr hx => (r3 i r x hr hx).past (bel0 hW hW')) hg5 (r := ⟨some ⟨g, 0, none⟩, m, m, true⟩) (x := ⟨cutR1 m rest, true⟩) ⟨hc1.symm, Nat.le_refl _, rfl, .inr ⟨g, rfl, Nat.le_trans HB.out.size hg, hm.past hW'⟩⟩ h5
      have hws := HB.out.size
      clear hs1 hs2 hs3 hs4 hs5 r1 r2 r3 HS hlen hlt' HST HBS HB3 HC
      generalize rowsV encW raw = os at HOWN HEND
      go_wp2_with (first
        | (go_at_call 35; (with_reducible refine (HCC.out).mono ?_); rintro e w4 ⟨g4, A4, n4, c4, rfl, hg, hm4, hn4, hc4, hR, hb⟩; have hsz4 := hb.size; have HG4 := Lib.hid hg; have HM4 := Lib.hid hm4; have HN4 := Lib.hid hn4; have HC4 := Lib.hid hc4; have HR4 := Lib.hid hR; have HB4 := Lib.hid hb; clear hg hm4 hn4 hc4 hR hb)
        | (at_builtin; go_must (refine wpList_append_own _ rfl _ _ 22 rfl w2.heap.size 31 i0 _ 2 32 Try.underlying22 hi0 hz0 hz1 hz2 rfl (by decide) (.slice Ao k co) k os rfl (HOWN.out _ (belA HB4.out _)) ⟨w4.heap.size, 0, none⟩ 1 1 (encW ⟨some ⟨g4, 0, none⟩, m, m, true⟩) rfl rfl (newsW w4 ⟨some ⟨g4, 0, none⟩, m, m, true⟩ _) (encW_one _) (by unfold maxLen; omega) (by omega) (by simp; omega) ?_; intro v5 w5 hown5 hgrow5 _; have HZ := Lib.hid (HEND.out _ _ _ _ _ _ _ _ HB4.out HG4.out HM4.out HN4.out HC4.out HR4.out (belA (Below.refl _ _) _) hown5 hgrow5); clear hown5 hgrow5)))
      go_roundw
      case rel => exact ⟨A4, n4, c4, k + 1, _, rfl, rfl, hkn, Lib.hid HZ.out.2.1, Lib.hid HZ.out.2.2⟩
      case measure => exact HZ.out.1
    · have HE : Hid (ORW w.heap.size wr vo (splitL m l) ∧ Below w.heap.size w wr) := Lib.hid (by
        obtain ⟨done, rest, hs1, hs2, hs3, hs4, hs5, hs6⟩ := HS.out
        have : rest = [] := List.eq_nil_of_length_eq_zero (by omega)
        subst this
        rw [splitAt_end hs1]
        exact ⟨hs6.more HB2.out.size, bel0 HB2.out HB.out⟩)
      have h00 : n' = 0 := by omega
      clear HS HST HBS HB HC HN HML
      go_wp2
      go_ret
      exact ⟨_, rfl, HE.out.1, HE.out.2⟩
end Go.Proofs.Ytfjgfmeanehpmaa
