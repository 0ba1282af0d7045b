/- The law FlowReflows. -/
import Derived.Test.YtfjgfmeanehpmaaLt
import Derived.Test.YtfjgfmeanehpmaaLl
namespace Go.Proofs.Ytfjgfmeanehpmaa
open Go.RowKit

theorem reflow_rowsM (m : Nat) (h2 : 2 ≤ m) (hm : m ≤ 1000) (L : List Rw) (k : Nat) (hk : (flat L).length + L.length ≤ k) : (∀ i, i < (reflowL m L).length → (Ar (reflowL m L) i).c.length ≤ 1000) ∧ (reflowL m L).length ≤ k ∧ (flat (reflowL m L)).length ≤ k * 1000 := by
  have h1 := joinS_cols m h2 (grp L)
  have h3 := joinS_len m h2 (grp L)
  have h4 := grp_len L
  have h5 := flat_len (reflowL m L)
  have h6 := sum_cols m (reflowL m L) h1
  rw [grp_all] at h3
  have h7 : (reflowL m L).length ≤ k := by
    have e : (reflowL m L).length = (joinS m (grp L)).length := rfl
    omega
  refine ⟨fun i hi => ?_, h7, ?_⟩
  · have : (Ar (reflowL m L) i) ∈ reflowL m L := by
      unfold Ar
      rw [List.getElem?_eq_getElem hi]
      exact List.getElem_mem hi
    rw [h1 _ this]
    exact hm
  · rw [h6] at h5
    exact Nat.le_trans h5 (Nat.mul_le_mul h7 hm)
/-- Places that are laid read as a list. -/
theorem PZ.rk {W : World} {g n : Nat} {f : Nat → Nat × Nat} {ps : List (Int × Int)} (h : PZ W g f n n) (hn : n = ps.length) (hf : ∀ k p, ps[k]? = some p → p = (((f k).1 : Int), ((f k).2 : Int))) : RK encPI 2 W (some ⟨g, 0, none⟩) ps := fun _ => by
  obtain ⟨h1, _, h3⟩ := h
  refine ⟨g, 0, rfl, h1, fun i x hx j u hu => ?_⟩
  have hi : i < n := by rw [hn]; exact (List.getElem?_eq_some_iff.1 hx).1
  obtain ⟨c0, c1⟩ := h3 i hi
  rw [if_pos hi] at c0
  rw [if_pos hi] at c1
  have e := hf i x hx
  subst e
  match j, hu with
  | 0, hu =>
    simp only [encPI, List.getElem?_cons_zero, Option.some.injEq] at hu
    subst hu
    rw [Nat.zero_add, Nat.add_zero]; exact c0
  | 1, hu =>
    simp only [encPI, List.getElem?_cons_succ, List.getElem?_cons_zero, Option.some.injEq] at hu
    subst hu
    rw [Nat.zero_add]; exact c1
  | j + 2, hu => simp [encPI] at hu
set_option maxRecDepth 100000 in
set_option maxHeartbeats 8000000 in
theorem flowReflows_law (A Al : Option Addr) (L : List Rw) (ps : List (Int × Int)) (n c nl cl : Nat) (z : Int) (hn : n = L.length) (hl : n ≤ 140737488355328) (hc : n ≤ c) (hr : ∀ i, i < n → (Ar L i).c.length ≤ 140737488355328) (hnl : nl = ps.length) (w : World) (h : RR w A L) (hp : RK encPI 2 w Al ps) :
    Calls Try.prog 6 #[.slice A n c, .int .i64 z, .slice Al nl cl] w fun e w' => e = .returned (.bool true) ∧ Below w.heap.size w w' := by
  have HG := Lib.hid (great_any A L n c hn hl hr w h)
  have HA := fun W => Lib.hid (awake_any W)
  cases hsm : smallB L with
  | false =>
    rw [hsm] at HG
    clear hr h hn hsm hp hnl
    go_enter Try.func6, Try.ntmps6
    go_wp2_with (first
      | (go_at_call 10; (with_reducible refine (HG.out).mono ?_); rintro e w1 ⟨rfl, hb⟩; have HB1 := Lib.hid hb; clear hb)
      | (go_at_call 11; (with_reducible refine ((HA _).out).mono ?_); rintro e w2 ⟨rfl, hb⟩; have HB2 := Lib.hid (bel0 HB1.out hb); clear hb))
    go_ret
    exact ⟨rfl, HB2.out⟩
  | true =>
    rw [hsm] at HG
    by_cases h40 : 40 < nl
    · have hd : decide ((40 : Int) < nl) = true := decide_eq_true (by omega)
      have hd2 : (40 : Int) < nl := by omega
      clear hr h hn hsm hp hnl h40
      go_enter Try.func6, Try.ntmps6
      go_wp2_with (first
        | (go_at_call 10; (with_reducible refine (HG.out).mono ?_); rintro e w1 ⟨rfl, hb⟩; have HB1 := Lib.hid hb; clear hb)
        | (go_at_call 11; (with_reducible refine ((HA _).out).mono ?_); rintro e w2 ⟨rfl, hb⟩; have HB2 := Lib.hid (bel0 HB1.out hb); clear hb))
      go_ret
      exact ⟨rfl, HB2.out⟩
    have hd : decide ((40 : Int) < nl) = false := decide_eq_false (by omega)
    have hd2 : (nl : Int) ≤ 40 := by omega
    have hs : Small L := of_decide_eq_true hsm
    obtain ⟨s1, s2, s3⟩ := small_rows hs
    have s4 := small_sum hs
    by_cases hz : 2 ≤ z ∧ z ≤ 1000
    · obtain ⟨m, rfl⟩ := Int.eq_ofNat_of_zero_le (show 0 ≤ z by omega)
      obtain ⟨r1, r2, r3⟩ := reflow_rowsM m (by omega) (by omega) L 600 s4
      have H1 : Hid (∀ W, Below w.heap.size w W → Calls Try.prog 25 #[.slice A n c, .int .i64 m, .slice Al nl cl] W fun e w' => ∃ A' c' A2 c2, e = .returned (.tuple #[.slice A' (reflowL m L).length c', .slice A2 nl c2]) ∧ RR w' A' (reflowL m L) ∧ RK encPI 2 w' A2 (ps.map fun p => (((movedP m L p.1 p.2).1 : Int), ((movedP m L p.1 p.2).2 : Int))) ∧ Below w.heap.size w w') := Lib.hid fun W hW => (reflow_places A Al L n c m nl cl ps hn hc (by omega) (by omega) (fun i hi => by have := s2 i (by omega); omega) (by omega) (by omega) (fun i hi => by have := r1 i hi; omega) (by omega) (by omega) hnl (by omega) W (h.past hW) (hp.past hW)).mono fun e w' ⟨A', c', g, he, _, hR, hP, hb⟩ =>
        ⟨A', c', _, _, he, hR, hP.rk (by rw [List.length_map]; exact hnl) (fun k p hk => by
          rw [List.getElem?_map] at hk
          cases hq : ps[k]? with
          | none => rw [hq] at hk; cases hk
          | some q => rw [hq] at hk; simp only [Option.map_some, Option.some.injEq] at hk; rw [← hk]; rfl), bel0 hW hb⟩
      have H2 : Hid (∀ W, Below w.heap.size w W → Calls Try.prog 26 #[.slice A n c, .int .i64 m, .slice Al nl cl] W fun e w' => ∃ A' c' A2 c2, e = .returned (.tuple #[.slice A' (reflowL m L).length c', .slice A2 nl c2]) ∧ RR w' A' (reflowL m L) ∧ RK encPI 2 w' A2 (ps.map fun p => (((movedP m L p.1 p.2).1 : Int), ((movedP m L p.1 p.2).2 : Int))) ∧ Below W.heap.size W w') := Lib.hid fun W hW => (refReflow_any A Al L n c m nl cl ps hn hc (by omega) (by omega) (fun i hi => by have := s2 i (by omega); omega) (by omega) (by omega) (by omega) (fun i hi => by have := r1 i hi; omega) (by omega) hnl (by omega) W (h.past hW) (hp.past hW)).mono fun e w' ⟨A', c', A2, c2, he, _, hR, hK, hb⟩ => ⟨A', c', A2, c2, he, hR, hK, hb⟩
      have HSM : Hid (∀ W A1 A2 c1 c2, RR W A1 (reflowL m L) → RR W A2 (reflowL m L) → Calls Try.prog 19 #[.slice A1 (reflowL m L).length c1, .slice A2 (reflowL m L).length c2] W fun e w' => e = .returned (.bool true) ∧ Below W.heap.size W w') := Lib.hid fun W A1 A2 c1 c2 h1 h2 => same8_any A1 A2 (reflowL m L) _ c1 c2 rfl (by omega) (fun i hi => by have := r1 i hi; omega) W h1 h2
      have HPS : Hid (∀ W A1 A2 c1 c2, RK encPI 2 W A1 (ps.map fun p => (((movedP m L p.1 p.2).1 : Int), ((movedP m L p.1 p.2).2 : Int))) → RK encPI 2 W A2 (ps.map fun p => (((movedP m L p.1 p.2).1 : Int), ((movedP m L p.1 p.2).2 : Int))) → Calls Try.prog 27 #[.slice A1 nl c1, .slice A2 nl c2] W fun e w' => e = .returned (.bool true) ∧ Below W.heap.size W w') := Lib.hid fun W A1 A2 c1 c2 h1 h2 => refPlaces_any A1 A2 _ nl c1 c2 (by rw [List.length_map]; exact hnl) (by omega) W h1 h2
      clear h hn hr r1 r2 r3 s1 s2 s3 s4 hs hsm hp hnl hz h40
      generalize (reflowL m L).length = ly at *
      generalize (ps.map fun p => (((movedP m L p.1 p.2).1 : Int), ((movedP m L p.1 p.2).2 : Int))) = qs at *
      go_enter Try.func6, Try.ntmps6
      go_wp2_with (first
        | (go_at_call 10; (with_reducible refine (HG.out).mono ?_); rintro e w1 ⟨rfl, hb⟩; have HB1 := Lib.hid hb; clear hb)
        | (go_at_call 11; (with_reducible refine ((HA _).out).mono ?_); rintro e w2 ⟨rfl, hb⟩; have HB2 := Lib.hid (bel0 HB1.out hb); clear hb)
        | (go_at_call 25; (with_reducible refine (H1.out _ HB2.out).mono ?_); rintro e w3 ⟨A3, c3, B3, d3, rfl, hR3, hK3, hb⟩; have HB3 := Lib.hid hb; have HR3 := Lib.hid hR3; have HK3 := Lib.hid hK3; clear hb hR3 hK3)
        | (go_at_call 26; (with_reducible refine (H2.out _ HB3.out).mono ?_); rintro e w4 ⟨A4, c4, B4, d4, rfl, hR4, hK4, hb⟩; have HB4 := Lib.hid (bel0 HB3.out hb); have HR4 := Lib.hid hR4; have HK4 := Lib.hid hK4; have HR34 := Lib.hid (HR3.out.past hb); have HK34 := Lib.hid (HK3.out.past hb); clear hb hR4 hK4)
        | (go_at_call 19; (with_reducible refine (HSM.out _ _ _ _ _ HR34.out HR4.out).mono ?_); rintro e w5 ⟨rfl, hb⟩; have HB5 := Lib.hid (bel0 HB4.out hb); have HK35 := Lib.hid (HK34.out.past hb); have HK45 := Lib.hid (HK4.out.past hb); clear hb)
        | (go_at_call 27; (with_reducible refine (HPS.out _ _ _ _ _ HK35.out HK45.out).mono ?_); rintro e w6 ⟨rfl, hb⟩; have HB6 := Lib.hid (bel0 HB5.out hb); clear hb))
      go_ret
      exact ⟨rfl, HB6.out⟩
    · have H1 : Hid (∀ W, Below w.heap.size w W → Calls Try.prog 25 #[.slice A n c, .int .i64 z, .slice Al nl cl] W fun e w' => ∃ A' c' A2 c2, e = .returned (.tuple #[.slice A' n c', .slice A2 nl c2]) ∧ RR w' A' L ∧ RK encPI 2 w' A2 ps ∧ Below w.heap.size w w') := Lib.hid fun W hW => (reflow_out A Al L ps n c nl cl z hz hn (by omega) (fun i hi => by have := s2 i (by omega); omega) hnl (by omega) W (h.past hW) (hp.past hW)).mono fun e w' ⟨A', c', A2, c2, he, hR, hK, hb⟩ => ⟨A', c', A2, c2, he, hR, hK, bel0 hW hb⟩
      have H2 := Lib.hid (fun W => refReflow_out A Al n c nl cl z hz W)
      have HR := Lib.hid h
      have HP := Lib.hid hp
      have HSM : Hid (∀ W A1 A2 c1 c2, RR W A1 L → RR W A2 L → Calls Try.prog 19 #[.slice A1 n c1, .slice A2 n c2] W fun e w' => e = .returned (.bool true) ∧ Below W.heap.size W w') := Lib.hid fun W A1 A2 c1 c2 h1 h2 => same8_any A1 A2 L n c1 c2 hn (by omega) (fun i hi => by have := s2 i (by omega); omega) W h1 h2
      have HPS : Hid (∀ W A1 A2 c1 c2, RK encPI 2 W A1 ps → RK encPI 2 W A2 ps → Calls Try.prog 27 #[.slice A1 nl c1, .slice A2 nl c2] W fun e w' => e = .returned (.bool true) ∧ Below W.heap.size W w') := Lib.hid fun W A1 A2 c1 c2 h1 h2 => refPlaces_any A1 A2 ps nl c1 c2 hnl (by omega) W h1 h2
      clear h hn hr s1 s2 s3 s4 hs hsm hp hnl hz h40
      go_enter Try.func6, Try.ntmps6
      go_wp2_with (first
        | (go_at_call 10; (with_reducible refine (HG.out).mono ?_); rintro e w1 ⟨rfl, hb⟩; have HB1 := Lib.hid hb; clear hb)
        | (go_at_call 11; (with_reducible refine ((HA _).out).mono ?_); rintro e w2 ⟨rfl, hb⟩; have HB2 := Lib.hid (bel0 HB1.out hb); clear hb)
        | (go_at_call 25; (with_reducible refine (H1.out _ HB2.out).mono ?_); rintro e w3 ⟨A3, c3, B3, d3, rfl, hR3, hK3, hb⟩; have HB3 := Lib.hid hb; have HR3 := Lib.hid hR3; have HK3 := Lib.hid hK3; clear hb hR3 hK3)
        | (go_at_call 26; (with_reducible refine (H2.out _).mono ?_); rintro e w4 ⟨rfl, rfl⟩)
        | (go_at_call 19; (with_reducible refine (HSM.out _ _ _ _ _ HR3.out (HR.out.past HB3.out)).mono ?_); rintro e w5 ⟨rfl, hb⟩; have HB5 := Lib.hid (bel0 HB3.out hb); have HK35 := Lib.hid (HK3.out.past hb); clear hb)
        | (go_at_call 27; (with_reducible refine (HPS.out _ _ _ _ _ HK35.out (HP.out.past HB5.out)).mono ?_); rintro e w6 ⟨rfl, hb⟩; have HB6 := Lib.hid (bel0 HB5.out hb); clear hb))
      go_ret
      exact ⟨rfl, HB6.out⟩
end Go.Proofs.Ytfjgfmeanehpmaa
