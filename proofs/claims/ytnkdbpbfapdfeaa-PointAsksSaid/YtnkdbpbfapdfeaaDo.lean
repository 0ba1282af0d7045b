/- The document's List and Places; places held against each other. -/
import Derived.Test.YtnkdbpbfapdfeaaDm
import Derived.Test.YtnkdbpbfapdfeaaDg
import Derived.BigQuiet
namespace Go.Proofs.Ytnkdbpbfapdfeaa
open Go.RowKit

def atT (x : Tr) : Int × Int := (x.1, x.2.1)
theorem RPl.of_own {w : World} {B n c : Nat} {A : Option Addr} {l : List (Int × Int)} (h : w.ownsRow B 30 2 (.slice A n c) n (plC l)) (hn : n = l.length) : RPl w w.heap.size A l := by
  subst hn
  rw [← plC_eq] at h
  by_cases hne : l = []
  · exact fun e => absurd hne e
  · rcases h.2 with ⟨_, h0⟩ | ⟨g', cap, cur, e, _, _⟩
    · exact absurd (List.eq_nil_of_length_eq_zero h0) hne
    · injection e with e1 _ e3
      subst e1
      obtain ⟨hH, hBg, hg⟩ := holds_of_own h hne
      exact rows_of_holds hH hg
theorem newsPl (W : World) (x : Int × Int) (t : TypeId) : ∀ (j : Nat) (u : Value), (plC [x])[j]? = some u → (W.alloc (.cells #[.int .i64 x.1, .int .i64 x.2] t)).cell? ((⟨W.heap.size, 0, none⟩ : Addr).add j) = some u := fun j u hj => by
  rw [Addr.add_mid, Nat.zero_add]
  exact (cell_of_row _ _ _ _ _ _ (heap_alloc_new W _)).trans (by simpa [plC] using hj)
set_option maxRecDepth 100000 in
set_option maxHeartbeats 8000000 in
theorem rlist_low {w : World} {M : Nat} {v : Value} {most next : Int} {L : List Tr} (h : QM w M v most next L) (hl : L.length ≤ 1000) :
    Calls Try.prog 14 #[.pointer (some ⟨M, 0, none⟩)] w fun e w' => ∃ A c, e = .returned (.slice A L.length c) ∧ Below w.heap.size w w' ∧ RPl w' w'.heap.size A (L.map atT) ∧ ∀ b off, A = some ⟨b, off, none⟩ → w.heap.size ≤ b := by
  obtain ⟨A, c, rfl, hcap, hform, hrow⟩ := h.row
  obtain ⟨i0, hi0, hz0, hz1, hz2⟩ := info_parts infoPos2
  have HM := Lib.hid h
  have HTR := Lib.hid hrow
  clear h hrow hform
  go_enter Try.func14, Try.ntmps14
  go_wp2
  go_loopw [3, 4] (fun u q wr => ∃ (j : Nat) (vo : Value), vo = u ∧ q = .int .i64 j ∧ j ≤ L.length ∧ Hid (wr.ownsRow w.heap.size 30 2 vo j (plC ((L.take j).map atT))) ∧ Hid (Below w.heap.size w wr)) (fun _ q _ => L.length - (intOf q).toNat)
  case atStart => exact ⟨0, _, rfl, rfl, Nat.zero_le _, Lib.hid (World.ownsRow_nil _ _ _ _), Lib.hid (Below.refl _ _)⟩
  case round =>
    obtain ⟨j, vo, rfl, rfl, hj, HO, HB⟩ := hrel
    obtain ⟨⟨q0, q1, q2⟩, qf⟩ := (HM.out.past HB.out).cells
    have hMr := (HM.out.past HB.out).lt
    obtain ⟨Ao, co, rfl, hco⟩ := own_formK HO.out
    by_cases hlt : j < L.length
    · have hjj : (j : Int) < L.length := by omega
      obtain ⟨b, off, rfl, hG⟩ := HTR.out.cell (fun e => by rw [e] at hlt; simp at hlt)
      obtain ⟨G0, GA⟩ := hG _ HB.out
      obtain ⟨z0, z1, z2⟩ := GA j hlt
      have HN : Hid ((L.take (j + 1)).map atT = (L.take j).map atT ++ [((Tz L j).1, (Tz L j).2.1)]) := Lib.hid (by rw [takeT_one L j hlt, List.map_append]; rfl)
      have HSZ := Nat.le_trans HB.out.size (Nat.le_of_lt (sz_alloc wr (.cells #[.int .i64 (Tz L j).1, .int .i64 (Tz L j).2.1] 30)))
      clear hG GA
      generalize Tz L j = x at *
      go_wp2_with (at_builtin; (refine wpList_append_own _ rfl _ _ 40 rfl w.heap.size 30 i0 _ 2 16 Try.underlying40 hi0 hz0 hz1 hz2 rfl (by decide) (.slice Ao j co) j (plC ((L.take j).map atT)) rfl (HO.out.alloc _) ⟨wr.heap.size, 0, none⟩ 1 1 (plC [(x.1, x.2.1)]) rfl rfl (newsPl wr (x.1, x.2.1) _) (plC_one _) (by unfold maxLen; omega) (by omega) HSZ ?_); intro v5 w5 hown5 hgrow5 _; have HO5 := Lib.hid hown5; have HB5 := Lib.hid (own_below (HO.out.alloc _) (HB.out.alloc HB.out.size _) HSZ hgrow5); clear hown5 hgrow5)
      go_roundw
      case rel => exact ⟨j + 1, _, rfl, by go_num, hlt, Lib.hid (by rw [HN.out, plC_app]; exact HO5.out), HB5⟩
      case measure => simp [intOf]; omega
    · obtain rfl : j = L.length := by omega
      have hjj : ¬ (L.length : Int) < L.length := by omega
      have HLOW : Hid (∀ b off, Ao = some ⟨b, off, none⟩ → w.heap.size ≤ b) := Lib.hid fun b off e => by
        subst e
        exact (HO.out.lt b rfl).1
      have HF : Hid (RPl wr wr.heap.size Ao (L.map atT)) := Lib.hid (by
        have := HO.out
        rw [List.take_of_length_le (Nat.le_refl _)] at this
        exact RPl.of_own this (by simp))
      clear HO
      go_wp2
      go_ret
      exact ⟨_, ⟨_, rfl⟩, HB.out, HF.out, HLOW.out⟩
theorem rlist_any {w : World} {M : Nat} {v : Value} {most next : Int} {L : List Tr} (h : QM w M v most next L) (hl : L.length ≤ 1000) :
    Calls Try.prog 14 #[.pointer (some ⟨M, 0, none⟩)] w fun e w' => ∃ A c, e = .returned (.slice A L.length c) ∧ Below w.heap.size w w' ∧ RPl w' w'.heap.size A (L.map atT) :=
  (rlist_low h hl).mono fun _ _ ⟨A, c, h1, h2, h3, _⟩ => ⟨A, c, h1, h2, h3⟩
/-- The places of an age. -/
def plA (L : List Tr) (a : Int) : List (Int × Int) := (L.filter fun x => x.2.2 == a).map atT
def plN (L : List Tr) (j : Nat) : List (Int × Int) := (List.range j).flatMap fun (t : Nat) => plA L ((t : Int) + 1)
theorem plA_take (L : List Tr) (a : Int) (i : Nat) (h : i < L.length) : plA (L.take (i + 1)) a = plA (L.take i) a ++ (if (Tz L i).2.2 == a then [((Tz L i).1, (Tz L i).2.1)] else []) := by
  unfold plA
  rw [takeT_one L i h, List.filter_append, List.map_append]
  by_cases hx : ((Tz L i).2.2 == a) = true
  · simp [hx, atT]
  · simp [hx]
theorem plN_succ (L : List Tr) (j : Nat) : plN L (j + 1) = plN L j ++ plA L ((j : Int) + 1) := by
  unfold plN
  rw [List.range_succ, List.flatMap_append]
  simp
set_option maxRecDepth 100000 in
set_option maxHeartbeats 8000000 in
theorem rplaces_any {w : World} {M : Nat} {v : Value} {most : Int} {next : Nat} {L : List Tr} (h : QM w M v most next L) (hl : L.length ≤ 1000) (hn : next ≤ 1000) :
    Calls Try.prog 16 #[.pointer (some ⟨M, 0, none⟩)] w fun e w' => ∃ A c, e = .returned (.slice A (plN L next).length c) ∧ Below w.heap.size w w' ∧ RPl w' w'.heap.size A (plN L next) := by
  obtain ⟨A, c, rfl, hcap, hform, hrow⟩ := h.row
  obtain ⟨i0, hi0, hz0, hz1, hz2⟩ := info_parts infoPos2
  have HM := Lib.hid h
  have HTR := Lib.hid hrow
  clear h hrow hform
  go_enter Try.func16, Try.ntmps16
  go_wp2
  go_loopw [3, 4] (fun u q wr => ∃ (j m : Nat) (vo : Value), vo = u ∧ q = .int .i64 ((j : Int) + 1) ∧ j ≤ next ∧ m ≤ j * 1000 ∧ Hid ((plN L j).length = m) ∧ Hid (wr.ownsRow w.heap.size 30 2 vo m (plC (plN L j))) ∧ Hid (Below w.heap.size w wr)) (fun _ q _ => next + 1 - (intOf q).toNat)
  case atStart => exact ⟨0, 0, _, rfl, rfl, Nat.zero_le _, Nat.zero_le _, Lib.hid rfl, Lib.hid (World.ownsRow_nil _ _ _ _), Lib.hid (Below.refl _ _)⟩
  case round =>
    obtain ⟨j, m, vo, rfl, rfl, hj, hm, HL, HO, HB⟩ := hrel
    obtain ⟨⟨q0, q1, q2⟩, qf⟩ := (HM.out.past HB.out).cells
    have hMr := (HM.out.past HB.out).lt
    by_cases hlt : j < next
    · have hjj : ((j : Int) + 1) ≤ next := by omega
      go_wp2
      have HBo := Lib.hid HB.out
      have HOo := Lib.hid HO.out
      clear HB HO q0 q1 q2 qf hMr
      generalize hgen : wr = wo at *
      clear hgen
      go_loopw [3, 5] (fun u q wr => ∃ (i m2 : Nat) (vp : Value), vp = u ∧ q = .int .i64 i ∧ i ≤ L.length ∧ m2 ≤ j * 1000 + i ∧ Hid ((plN L j ++ plA (L.take i) ((j : Int) + 1)).length = m2) ∧ Hid (wr.ownsRow w.heap.size 30 2 vp m2 (plC (plN L j ++ plA (L.take i) ((j : Int) + 1)))) ∧ Hid (Below w.heap.size w wr)) (fun _ q _ => L.length - (intOf q).toNat)
      case atStart => exact ⟨0, m, _, rfl, rfl, Nat.zero_le _, by omega, Lib.hid (by show (plN L j ++ []).length = m; rw [List.append_nil]; exact HL.out), Lib.hid (by show World.ownsRow _ _ _ _ _ _ (plC (plN L j ++ [])); rw [List.append_nil]; exact HOo.out), HBo⟩
      case round =>
        obtain ⟨i, m2, vp, rfl, rfl, hi, hm2, HL2, HO, HB⟩ := hrel
        obtain ⟨⟨q0, q1, q2⟩, qf⟩ := (HM.out.past HB.out).cells
        have hMr := (HM.out.past HB.out).lt
        obtain ⟨Ao, co, rfl, hco⟩ := own_formK HO.out
        by_cases hlti : i < L.length
        · have hii : (i : Int) < L.length := by omega
          obtain ⟨b, off, rfl, hG⟩ := HTR.out.cell (fun e => by rw [e] at hlti; simp at hlti)
          obtain ⟨G0, GA⟩ := hG _ HB.out
          obtain ⟨z0, z1, z2⟩ := GA i hlti
          have hpt := plA_take L ((j : Int) + 1) i hlti
          have HSZ := Nat.le_trans HB.out.size (Nat.le_of_lt (sz_alloc wr (.cells #[.int .i64 (Tz L i).1, .int .i64 (Tz L i).2.1] 30)))
          clear hG GA
          generalize Tz L i = x at *
          cases hx : (x.2.2 == (j : Int) + 1) with
          | true =>
            rw [hx, if_pos rfl, ] at hpt
            have HPT : Hid (plN L j ++ plA (L.take (i + 1)) ((j : Int) + 1) = (plN L j ++ plA (L.take i) ((j : Int) + 1)) ++ [(x.1, x.2.1)]) := Lib.hid (by rw [hpt, List.append_assoc])
            clear hpt
            generalize plN L j ++ plA (L.take i) ((j : Int) + 1) = acc at *
            go_wp2_with (at_builtin; (refine wpList_append_own _ rfl _ _ 40 rfl w.heap.size 30 i0 _ 2 16 Try.underlying40 hi0 hz0 hz1 hz2 rfl (by decide) (.slice Ao m2 co) m2 (plC acc) rfl (HO.out.alloc _) ⟨wr.heap.size, 0, none⟩ 1 1 (plC [(x.1, x.2.1)]) rfl rfl (newsPl wr (x.1, x.2.1) _) (plC_one _) (by unfold maxLen; omega) (by omega) HSZ ?_); intro v5 w5 hown5 hgrow5 _; have HO5 := Lib.hid hown5; have HB5 := Lib.hid (own_below (HO.out.alloc _) (HB.out.alloc HB.out.size _) HSZ hgrow5); clear hown5 hgrow5)
            go_roundw
            case rel => exact ⟨i + 1, m2 + 1, _, rfl, by go_num, hlti, by omega, Lib.hid (by rw [HPT.out, List.length_append, HL2.out]; rfl), Lib.hid (by rw [HPT.out, plC_app]; exact HO5.out), HB5⟩
            case measure => simp [intOf]; omega
          | false =>
            rw [hx, if_neg (by simp), List.append_nil] at hpt
            have HPT := Lib.hid hpt
            clear hpt
            go_wp2
            go_roundw
            case rel => exact ⟨i + 1, m2, _, rfl, by go_num, hlti, by omega, Lib.hid (by rw [HPT.out]; exact HL2.out), Lib.hid (by rw [HPT.out]; exact HO.out), HB⟩
            case measure => simp [intOf]; omega
        · obtain rfl : i = L.length := by omega
          have hii : ¬ (L.length : Int) < L.length := by omega
          have HN : Hid (plN L (j + 1) = plN L j ++ plA (L.take L.length) ((j : Int) + 1)) := Lib.hid (by rw [List.take_of_length_le (Nat.le_refl _)]; exact plN_succ L j)
          go_wp2
          go_roundw
          case rel => exact ⟨j + 1, m2, _, rfl, by go_num, by omega, by omega, Lib.hid (by rw [HN.out]; exact HL2.out), Lib.hid (by rw [HN.out]; exact HO.out), HB⟩
          case measure => simp [intOf]; omega
    · obtain rfl : j = next := by omega
      have hjj : ¬ ((j : Int) + 1) ≤ j := by omega
      obtain ⟨Ao, co, rfl, hco⟩ := own_formK HO.out
      have HF : Hid (RPl wr wr.heap.size Ao (plN L j)) := Lib.hid (RPl.of_own HO.out HL.out.symm)
      clear HO
      go_wp2
      go_ret
      exact ⟨_, ⟨_, by rw [HL.out]; rfl⟩, HB.out, HF.out⟩
set_option maxRecDepth 100000 in
set_option maxHeartbeats 8000000 in
/-- Two readings of one list are the same. -/
theorem samePlaces_any (A A' : Option Addr) (s : List (Int × Int)) (n n' c c' : Nat) (hn : n = s.length) (hn' : n' = s.length) (hl : n ≤ 1000000) (w : World) (h : RPl w w.heap.size A s) (h' : RPl w w.heap.size A' s) :
    Calls Try.prog 12 #[.slice A n c, .slice A' n' c'] w fun e w' => e = .returned (.bool true) ∧ Below w.heap.size w w' := by
  obtain rfl : n' = n := by omega
  have HN := Lib.hid hn
  have HR := Lib.hid h
  have HR' := Lib.hid h'
  clear h h' hn hn'
  have hg := guardPos
  go_enter Try.func12, Try.ntmps12
  go_wp2
  go_loopw [5] (fun q wr => ∃ i : Nat, q = .int .i64 i ∧ i ≤ n' ∧ Hid (Below w.heap.size w wr)) (fun q _ => n' - (intOf q).toNat)
  case atStart => exact ⟨0, rfl, Nat.zero_le _, Lib.hid (Below.refl _ _)⟩
  case round =>
    obtain ⟨i, rfl, hi, HB⟩ := hrel
    by_cases hlt : i < n'
    · have hii : (i : Int) < n' := by omega
      have hne : s ≠ [] := fun e => by have := HN.out; rw [e] at this; simp at this; omega
      obtain ⟨b, off, rfl, hG⟩ := HR.out.at hne
      obtain ⟨b', off', rfl, hG'⟩ := HR'.out.at hne
      obtain ⟨G0, GA⟩ := hG _ HB.out
      obtain ⟨G0', GA'⟩ := hG' _ HB.out
      obtain ⟨z0, z1⟩ := GA i (by have := HN.out; omega)
      obtain ⟨y0, y1⟩ := GA' i (by have := HN.out; omega)
      clear hG hG' GA GA' hne
      generalize At s i = x at *
      have E := fun W => eqPos_self W x.1 x.2
      go_wp2_with fail
      go_quiet (fail)
      have HBN := Lib.hid (bel0 HB.out (belN' wr nq))
      go_wp2
      go_roundw
      case rel => exact ⟨i + 1, by go_num, hlt, HBN⟩
      case measure => simp [intOf]; omega
    · obtain rfl : i = n' := by omega
      have hii : ¬ (i : Int) < i := by omega
      go_wp2
      go_ret
      exact ⟨rfl, HB.out⟩
end Go.Proofs.Ytnkdbpbfapdfeaa
