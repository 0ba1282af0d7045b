/- The law FlowLines. -/
import Derived.Test.YtfjgfmeanehpmaaHl
namespace Go.Proofs.Ytfjgfmeanehpmaa
open Go.RowKit

theorem runK_true : ∀ (T : List Rw) (j : Nat), j < runK T → (Ar T j).k = true
  | [], j, h => by simp [runK] at h
  | r :: t, j, h => by
    unfold runK at h
    by_cases hr : r.k = true
    · match j, h with
      | 0, _ => exact hr
      | j + 1, h =>
        simp [hr] at h
        exact runK_true t j h
    · simp [hr] at h
theorem runK_stop : ∀ (T : List Rw), runK T < T.length → (Ar T (runK T)).k = false
  | [], h => by simp at h
  | r :: t, h => by
    by_cases hr : r.k = true
    · have e : runK (r :: t) = runK t + 1 := by unfold runK; simp [hr]
      rw [e] at h ⊢
      exact runK_stop t (by simpa using h)
    · have e : runK (r :: t) = 0 := by unfold runK; simp [hr]
      rw [e]
      show r.k = false
      simpa using hr
/-- Where lines begin and end, from a row on. -/
def Ln (L : List Rw) : Nat → List (Nat × Nat) → Prop
  | a, [] => a = L.length
  | a, p :: ps => p.1 = a ∧ a < p.2 ∧ p.2 ≤ L.length ∧ (∀ k, a < k → k < p.2 → (Ar L k).k = true) ∧ (p.2 < L.length → (Ar L p.2).k = false) ∧ Ln L p.2 ps
theorem ln_grp (L : List Rw) : ∀ (m a : Nat), L.length - a ≤ m → a ≤ L.length → Ln L a (offs a (grp (L.drop a)))
  | m, a, hm, ha => by
    rcases Nat.lt_or_ge a L.length with hlt | hge
    · match m, hm with
      | 0, hm => omega
      | m + 1, hm =>
        have hle := runK_drop L a hlt
        rw [List.drop_eq_getElem_cons hlt, grp_cons, dropWhile_drop, List.drop_drop]
        have hgl : (L[a] :: (L.drop (a + 1)).takeWhile Rw.k).length = 1 + runK (L.drop (a + 1)) := by simp [runK]; omega
        have ha1 : a + (L[a] :: (L.drop (a + 1)).takeWhile Rw.k).length = a + 1 + runK (L.drop (a + 1)) := by rw [hgl]; omega
        show Ln L a ((a, a + (L[a] :: (L.drop (a + 1)).takeWhile Rw.k).length) :: offs (a + (L[a] :: (L.drop (a + 1)).takeWhile Rw.k).length) (grp (L.drop (a + 1 + runK (L.drop (a + 1))))))
        rw [ha1]
        refine ⟨rfl, by show a < a + 1 + _; omega, hle, fun k h1 h2 => ?_, fun h => ?_, ln_grp L m _ (by omega) hle⟩
        · have := runK_true (L.drop (a + 1)) (k - (a + 1)) (by simp at h2; omega)
          rw [Ar_drop, show a + 1 + (k - (a + 1)) = k by omega] at this
          exact this
        · have := runK_stop (L.drop (a + 1)) (by simp at h ⊢; omega)
          rwa [Ar_drop] at this
    · have e : a = L.length := by omega
      subst e
      rw [List.drop_length, grp_nil]
      rfl
theorem ln_all (L : List Rw) : Ln L 0 (offs 0 (grp L)) := ln_grp L L.length 0 (by omega) (Nat.zero_le _)
theorem lineOf_in (L : List Rw) (a : Nat) (ha : a = 0 ∨ (Ar L a).k = false) : ∀ k, a ≤ k → (∀ j, a < j → j ≤ k → (Ar L j).k = true) → lineOf L k = a
  | 0, h, _ => by
    obtain rfl : a = 0 := by omega
    rfl
  | k + 1, h, hj => by
    unfold lineOf
    rcases Nat.lt_or_ge a (k + 1) with h1 | h1
    · rw [if_pos (hj (k + 1) h1 (Nat.le_refl _)), lineOf_in L a ha k (by omega) (fun j h2 h3 => hj j h2 (by omega))]
    · obtain rfl : a = k + 1 := by omega
      rcases ha with h2 | h2
      · omega
      · rw [if_neg (by rw [h2]; decide)]
/-- Behind some lines: where the next one begins. -/
theorem ln_drop (L : List Rw) : ∀ (ps : List (Nat × Nat)) (a i : Nat), Ln L a ps → (a = 0 ∨ a = L.length ∨ (Ar L a).k = false) → i ≤ ps.length → ∃ b, Ln L b (ps.drop i) ∧ (b = 0 ∨ b = L.length ∨ (Ar L b).k = false) ∧ (i = 0 → b = a)
  | ps, a, 0, h, ha, _ => ⟨a, h, ha, fun _ => rfl⟩
  | [], a, i + 1, h, ha, hi => by simp at hi
  | p :: ps, a, i + 1, h, ha, hi => by
    obtain ⟨h1, h2, h3, h4, h5, h6⟩ := h
    obtain ⟨b, g1, g2, _⟩ := ln_drop L ps p.2 i h6 (by
      rcases Nat.lt_or_ge p.2 L.length with h | h
      · exact .inr (.inr (h5 h))
      · exact .inr (.inl (by omega))) (by simpa using hi)
    exact ⟨b, g1, g2, fun h => by omega⟩
theorem small_rows {L : List Rw} (h : Small L) : L.length ≤ 600 ∧ (∀ i, i < L.length → (Ar L i).c.length ≤ 600) ∧ (flat L).length ≤ 600 := by
  unfold Small at h
  have h2 := flat_len L
  refine ⟨by omega, fun i hi => ?_, by omega⟩
  have : ∀ (L : List Rw) (i : Nat), i < L.length → (Ar L i).c.length ≤ (L.map fun r => r.c.length).sum := fun L => by
    induction L with
    | nil => intro i hi; simp at hi
    | cons r t ih =>
      intro i hi
      match i, hi with
      | 0, _ => simp [Ar]
      | i + 1, hi =>
        have := ih i (by simpa using hi)
        have e : Ar (r :: t) (i + 1) = Ar t i := rfl
        rw [e]
        simp
        omega
  have := this L i hi
  omega
set_option maxRecDepth 100000 in
set_option maxHeartbeats 8000000 in
theorem flowLines_law (A : Option Addr) (L : List Rw) (n c : Nat) (hn : n = L.length) (hl : n ≤ 140737488355328) (hc : n ≤ c) (hr : ∀ i, i < n → (Ar L i).c.length ≤ 140737488355328) (w : World) (h : RR w A L) :
    Calls Try.prog 3 #[.slice A n c] w fun e w' => e = .returned (.bool true) ∧ Below w.heap.size w w' := by
  have HG := Lib.hid (great_any A L n c hn hl hr w h)
  have HA := fun W => Lib.hid (awake_any W)
  have HR := Lib.hid h
  have HN := Lib.hid hn
  cases hsm : smallB L with
  | false =>
    rw [hsm] at HG
    clear hr h hn hsm
    go_enter Try.func3, Try.ntmps3
    go_wp2_with (first
      | (go_at_call 10; (with_reducible refine (HG.out).mono ?_); rintro e w1 ⟨rfl, hb⟩; have HB1 := Lib.hid hb; clear hb)
      | (go_at_call 11; (with_reducible refine ((HA _).out).mono ?_); rintro e w2 ⟨rfl, hb⟩; have HB2 := Lib.hid (bel0 HB1.out hb); clear hb))
    go_ret
    exact ⟨rfl, HB2.out⟩
  | true =>
    rw [hsm] at HG
    have hs : Small L := of_decide_eq_true hsm
    obtain ⟨s1, s2, s3⟩ := small_rows hs
    have HLI : Hid (∀ W, Below w.heap.size w W → Calls Try.prog 12 #[.slice A n c] W fun e w' => ∃ A' c', e = .returned (.slice A' (grp L).length c') ∧ RK encN 2 w' A' (offs 0 (grp L)) ∧ Below w.heap.size w w') := Lib.hid fun W hW => (lines_any A L n c hn (by omega) hc W (h.past hW)).mono fun e w' ⟨v, he, hb, ho⟩ => by
      obtain ⟨A', c', hv, _⟩ := own_formK ho
      subst hv
      exact ⟨A', c', he, RK.of_own encN_len ho (offs_len _ _).symm, bel0 hW hb⟩
    have HLN : Hid (∀ W k, k < n → Below w.heap.size w W → Calls Try.prog 13 #[.slice A n c, .int .i64 k] W fun e w' => e = .returned (.int .i64 (lineOf L k)) ∧ Below W.heap.size W w') := Lib.hid fun W k hk hW => line_any A L n c k hn (by omega) hk W (h.past hW)
    have HF1 : Hid (∀ W, Below w.heap.size w W → Calls Try.prog 15 #[.slice A n c] W fun e w' => ∃ A' c', e = .returned (.slice A' (flowL L).length c') ∧ RC w' w'.heap.size A' (flowL L) ∧ Below w.heap.size w w') := Lib.hid fun W hW => (flow_any A L n c hn (by omega) (fun i hi => by have := s2 i (by omega); omega) (by omega) W (h.past hW)).mono fun e w' ⟨v, he, ho, hb⟩ => by
      obtain ⟨A', c', hv, _, hr⟩ := ho.form'
      subst hv
      exact ⟨A', c', he, hr, bel0 hW hb⟩
    have HF2 : Hid (∀ W, Below w.heap.size w W → Calls Try.prog 16 #[.slice A n c] W fun e w' => ∃ A' c', e = .returned (.slice A' (flowL L).length c') ∧ RC w' w'.heap.size A' (flowL L) ∧ Below W.heap.size W w') := Lib.hid fun W hW => (refFlow_any A L n c hn (by omega) (fun i hi => by have := s2 i (by omega); omega) (by omega) W (h.past hW)).mono fun e w' ⟨v, he, ho, hb⟩ => by
      obtain ⟨A', c', hv, _, hr⟩ := ho.form'
      subst hv
      exact ⟨A', c', he, hr, hb⟩
    have hfl : (flowL L).length ≤ 600 := by
      have h1 : (flowL L).length ≤ (mendL (flat L)).length := (List.take_sublist _ _).length_le
      rw [mendL_len] at h1
      omega
    have HSM : Hid (∀ W A1 A2 c1 c2, RC W W.heap.size A1 (flowL L) → RC W W.heap.size A2 (flowL L) → Calls Try.prog 14 #[.slice A1 (flowL L).length c1, .slice A2 (flowL L).length c2] W fun e w' => e = .returned (.bool true) ∧ Below W.heap.size W w') := Lib.hid fun W A1 A2 c1 c2 h1 h2 => by
      have h3 := same7C_any A1 A2 (flowL L) (flowL L) _ _ c1 c2 rfl rfl (by omega) W h1 h2
      rwa [sameC_self] at h3
    have hn6 : n ≤ 600 := by omega
    have HLL := Lib.hid (ln_all L)
    have hgl : (grp L).length ≤ 600 := by
      have := lineAt_len (L := L) (a := L.length) (ps := offs 0 (grp L)) ⟨grp L, by rw [List.drop_length, grp_nil, List.append_nil], by rw [grp_all], rfl⟩
      rw [offs_len] at this
      omega
    have HGO : Hid ((offs 0 (grp L)).length = (grp L).length) := Lib.hid (offs_len _ _)
    generalize offs 0 (grp L) = ps at *
    generalize (grp L).length = m at *
    generalize hFL : flowL L = FL at *
    generalize FL.length = fl at *
    clear hr h hn hsm hs s1 s2 s3 hFL hl
    go_enter Try.func3, Try.ntmps3
    go_wp2_with (first
      | (go_at_call 10; (with_reducible refine (HG.out).mono ?_); rintro e w1 ⟨rfl, hb⟩; have HB1 := Lib.hid hb; clear hb)
      | (go_at_call 11; (with_reducible refine ((HA _).out).mono ?_); rintro e w2 ⟨rfl, hb⟩; have HB2 := Lib.hid (bel0 HB1.out hb); clear hb)
      | (go_at_call 12; (with_reducible refine (HLI.out _ HB2.out).mono ?_); rintro e w3 ⟨A3, c3, rfl, hrk, hb⟩; have HB3 := Lib.hid hb; have HRK := Lib.hid hrk; clear hb hrk))
    clear HLI HG HA HB1 HB2
    go_loopw [4, 5] (fun s q wr => ∃ i a : Nat, s = .int .i64 a ∧ q = .int .i64 i ∧ i ≤ m ∧ a ≤ n ∧ Hid (Ln L a (ps.drop i) ∧ (a = 0 ∨ a = L.length ∨ (Ar L a).k = false)) ∧ Hid (Below w3.heap.size w3 wr)) (fun _ q _ => m - (intOf q).toNat)
    case atStart => exact ⟨0, 0, rfl, rfl, Nat.zero_le _, Nat.zero_le _, Lib.hid ⟨HLL.out, .inl rfl⟩, Lib.hid (Below.refl _ _)⟩
    case round =>
      obtain ⟨i, a, rfl, rfl, hi, ha, HL, HB⟩ := hrel
      by_cases hlt : i < m
      · have hlti : (i : Int) < m := by omega
        obtain ⟨hln, hak⟩ := HL.out
        have hgo : i < ps.length := by rw [HGO.out]; exact hlt
        rw [List.drop_eq_getElem_cons hgo] at hln
        obtain ⟨g1, g2, g3, g4, g5, g6⟩ := hln
        obtain ⟨b, off, rfl, _, hcell⟩ := (HRK.out.past HB.out) (fun e => by rw [e] at hgo; simp at hgo)
        generalize hp : ps[i] = p at *
        have hpi : ps[i]? = some p := by rw [← hp]; exact List.getElem?_eq_getElem hgo
        obtain ⟨p1, t⟩ := p
        have g1 : a = p1 := Eq.symm g1
        subst g1
        have c0 : wr.cell? ⟨b, off + i * 2, none⟩ = some (.int .i64 (a : Int)) := hcell i _ hpi 0 _ rfl
        have c1 : wr.cell? ⟨b, off + i * 2 + 1, none⟩ = some (.int .i64 (t : Int)) := hcell i _ hpi 1 _ rfl
        have g2 : a < t := g2
        have g3 : t ≤ L.length := g3
        rw [← HN.out] at g3
        have HNX : Hid (Ln L t (ps.drop (i + 1)) ∧ (t = 0 ∨ t = L.length ∨ (Ar L t).k = false)) := Lib.hid ⟨g6, by
          rcases Nat.lt_or_ge t L.length with h | h
          · exact .inr (.inr (g5 h))
          · exact .inr (.inl (by have := HN.out; omega))⟩
        have HLO : Hid (∀ k, a ≤ k → k < t → lineOf L k = a) := Lib.hid fun k h1 h2 => lineOf_in L a (by
          rcases hak with h | h | h
          · exact .inl h
          · have := HN.out; omega
          · exact .inr h) k h1 (fun j h3 h4 => g4 j h3 (by omega))
        have d1 : decide (t ≤ a) = false := decide_eq_false (by omega)
        have d2 : decide (n < t) = false := decide_eq_false (by omega)
        have HCL : Hid (∀ W, Below w3.heap.size w3 W → W.cell? ⟨b, off + i * 2, none⟩ = some (.int .i64 (a : Int)) ∧ W.cell? ⟨b, off + i * 2 + 1, none⟩ = some (.int .i64 (t : Int))) := Lib.hid fun W hW => by
          obtain ⟨b', off', e, _, hcell'⟩ := (HRK.out.past hW) (fun e => by rw [e] at hgo; simp at hgo)
          injection e with e
          injection e with e1 e2 _
          subst e1; subst e2
          exact ⟨hcell' i _ hpi 0 _ rfl, hcell' i _ hpi 1 _ rfl⟩
        clear hcell g4 g5 g6 hak hp hpi hgo HL HLL
        go_wp2_with fail
        go_loopw [6] (fun q wr => ∃ k : Nat, q = .int .i64 k ∧ a ≤ k ∧ k ≤ t ∧ Hid (Below w3.heap.size w3 wr)) (fun q _ => t - (intOf q).toNat)
        case atStart => exact ⟨a, rfl, Nat.le_refl _, Nat.le_of_lt g2, HB⟩
        case round =>
          obtain ⟨k, rfl, hk1, hk2, HB'⟩ := hrel
          obtain ⟨k0, k1⟩ := HCL.out _ HB'.out
          clear c0 c1
          by_cases hkt : k < t
          · have hLK := Lib.hid (HLN.out _ k (by omega) (bel0 HB3.out HB'.out))
            rw [HLO.out k hk1 hkt] at hLK
            go_wp2_with (go_at_call 13; (with_reducible refine (hLK.out).mono ?_); rintro e w4 ⟨rfl, hb⟩; have HB4 := Lib.hid (bel0 HB'.out hb); clear hb)
            go_roundw
            case rel => exact ⟨k + 1, by go_num, by omega, hkt, HB4⟩
            case measure => simp [intOf]; omega
          · obtain rfl : k = t := by omega
            by_cases hkn : k < n
            · have hkni : (k : Int) < n := by omega
              have hkf : (Ar L k).k = false := by
                rcases HNX.out.2 with h | h | h
                · omega
                · have := HN.out; omega
                · exact h
              obtain ⟨b2, off2, Ai, ci, rfl, _, hG⟩ := HR.out.at k (by have := HN.out; omega)
              obtain ⟨_, _, a1, _⟩ := hG _ (bel0 HB3.out HB'.out)
              rw [hkf] at a1
              clear hG hkf
              go_wp2
              go_roundw
              case rel => exact ⟨i + 1, k, rfl, by go_num, hlt, g3, HNX, HB'⟩
              case measure => simp [intOf]; omega
            · have d3 : decide (k < n) = false := decide_eq_false hkn
              go_wp2
              go_roundw
              case rel => exact ⟨i + 1, k, rfl, by go_num, hlt, g3, HNX, HB'⟩
              case measure => simp [intOf]; omega
      · obtain rfl : i = m := by omega
        have HE : Hid (a = n) := Lib.hid (by
          have := HL.out.1
          rw [List.drop_of_length_le (by rw [HGO.out]; exact Nat.le_refl _)] at this
          exact this.trans HN.out.symm)
        have hae : ((a : Int) == n) = true := by have := HE.out; simp; omega
        clear HL HLL
        go_wp2_with (first
          | (go_at_call 15; (with_reducible refine (HF1.out _ (bel0 HB3.out HB.out)).mono ?_); rintro e w4 ⟨A4, c4, rfl, hr, hb⟩; have HB4 := Lib.hid hb; have HR4 := Lib.hid hr; clear hb hr)
          | (go_at_call 16; (with_reducible refine (HF2.out _ HB4.out).mono ?_); rintro e w5 ⟨A5, c5, rfl, hr, hb⟩; have HB5 := Lib.hid (bel0 HB4.out hb); have HR5 := Lib.hid hr; have HR4b := Lib.hid (HR4.out.past hb); clear hb hr)
          | (go_at_call 14; (with_reducible refine (HSM.out _ _ _ _ _ HR4b.out HR5.out).mono ?_); rintro e w6 ⟨rfl, hb⟩; have HB6 := Lib.hid (bel0 HB5.out hb); clear hb))
        go_ret
        exact ⟨rfl, HB6.out⟩
end Go.Proofs.Ytfjgfmeanehpmaa
