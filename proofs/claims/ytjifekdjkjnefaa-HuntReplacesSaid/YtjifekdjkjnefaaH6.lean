/- The walks of heap.down and heap.up. Written by mkh6.py. -/
import Derived.Test.YtjifekdjkjnefaaH5
namespace Go.Proofs.Ytjifekdjkjnefaa
open Go.RowKit

theorem cell_lt {W : World} {b : Nat} {v : Value} (h : W.cell? ⟨b, 0, none⟩ = some v) : b < W.heap.size := by
  rcases Nat.lt_or_ge b W.heap.size with hl | hl
  · exact hl
  · simp [World.cell?, Array.getElem?_eq_none hl] at h
theorem cell_past {W W' : World} {b : Nat} {v : Value} (h : W.cell? ⟨b, 0, none⟩ = some v) (hb : Below W.heap.size W W') : W'.cell? ⟨b, 0, none⟩ = some v := (hb.cell (p := ⟨b, 0, none⟩) (by
  rcases Nat.lt_or_ge b W.heap.size with hl | hl
  · exact hl
  · simp [World.cell?, Array.getElem?_eq_none hl] at h)).trans h
theorem swE_over {E : List Ent} {i j k : Nat} (hi : i < E.length) (hj : j < E.length) (h1 : i < k) (h2 : j < k) : enA (swE E i j) k = enA E k := by
  rw [swE_at E i j k hi hj, if_neg (by omega), if_neg (by omega)]
def RetB (e : Ending) : Prop := ∃ r : Bool, e = .returned (.bool r)
/-- What down and up leave. -/
structure QD (w0 : World) (b : Nat) (E : List Ent) (v : Value) (W : World) (n lo : Nat) (E' : List Ent) (W' : World) : Prop where
  q : QM w0 b E' W'
  hf : HF W W'
  same : SameN (ndE E') (ndE E)
  len : E'.length = E.length
  over : ∀ k, n ≤ k → enA E' k = enA E k
  cell : W'.cell? ⟨b, 0, none⟩ = some v
  fr : FrO (QO b) W W'
theorem QD.refl {w0 W : World} {b n lo : Nat} {E : List Ent} {v : Value} (h : QM w0 b E W) (hc : W.cell? ⟨b, 0, none⟩ = some v) : QD w0 b E v W n lo E W := ⟨h, HF.refl W, SameN.refl _, rfl, fun _ _ => rfl, hc, ⟨Nat.le_refl _, fun _ _ _ => rfl, fun _ h => .inl h⟩⟩
theorem QD.past {w0 W W' W2 : World} {b n lo : Nat} {E E' : List Ent} {v : Value} (h : QD w0 b E v W n lo E' W') (hb : Below W'.heap.size W' W2) : QD w0 b E v W n lo E' W2 := ⟨h.q.past hb, h.hf.trans (HF.below hb), h.same, h.len, h.over, cell_past h.cell hb, h.fr.trans' (fro_below (cell_lt h.cell) hb)⟩
theorem QD.swap {w0 W W' W2 : World} {b n lo i j : Nat} {E E' : List Ent} {v : Value} (h : QD w0 b E v W n lo E' W') (hi : i < n) (hj : j < n) (hn : n ≤ E.length) (hq : QM w0 b (swE E' i j) W2) (hf : HF W' W2) (hc : W2.cell? ⟨b, 0, none⟩ = some v) (hr : FrO (QO b) W' W2) : QD w0 b E v W n lo (swE E' i j) W2 := by
  have hl := h.len
  refine ⟨hq, h.hf.trans hf, ?_, by rw [swE_len]; exact hl, fun k hk => (swE_over (by omega) (by omega) (by omega) (by omega)).trans (h.over k hk), hc, h.fr.trans' hr⟩
  rw [ndE_swE E' i j (by omega) (by omega)]
  exact (same_swp _ i j (by rw [ndE_len]; omega) (by rw [ndE_len]; omega)).trans h.same
set_option maxRecDepth 100000 in
set_option maxHeartbeats 8000000 in
theorem down_any (w0 : World) (b n lo i0 : Nat) (E : List Ent) (v : Value) (hn : n ≤ E.length) (hl : E.length ≤ 100000) (hi0 : i0 ≤ 100000) (hlo : lo ≤ i0) (hD : DI n lo i0 (ndE E)) (W : World) (h : QM w0 b E W) (hv : W.cell? ⟨b, 0, none⟩ = some v) :
    Calls Try.prog 36 #[.iface 53 (.pointer (some ⟨b, 0, none⟩)), .int .i64 i0, .int .i64 n] W fun e w' => RetB e ∧ ∃ E', QD w0 b E v W n lo E' w' ∧ HP n lo (ndE E') := by
  have HQ0 := Lib.hid (QD.refl (n := n) (lo := lo) h hv)
  have HD0 := Lib.hid hD
  have HN := Lib.hid hn
  have hni : (n : Int) ≤ 100000 := by omega
  clear h hv hD hn
  go_enter Try.func36, Try.ntmps36
  go_wp2
  go_loopw [7] (fun q wr => ∃ (i : Nat) (E1 : List Ent), q = .int .i64 i ∧ i ≤ 100000 ∧ lo ≤ i ∧ Hid (DI n lo i (ndE E1)) ∧ Hid (QD w0 b E v W n lo E1 wr)) (fun q _ => n - (intOf q).toNat)
  case atStart => exact ⟨i0, E, rfl, hi0, hlo, HD0, HQ0⟩
  case round =>
    obtain ⟨i, E1, rfl, hi, hloi, HD, HQ⟩ := hrel
    obtain ⟨j1, hj1⟩ : ∃ j1, j1 = 2 * i + 1 := ⟨_, rfl⟩
    have hw1 : IntKind.i64.wrap (2 * (i : Int)) = 2 * (i : Int) := IntWalk.i64_in _ (by omega)
    have hw2 : IntKind.i64.wrap (2 * (i : Int) + 1) = (j1 : Int) := by rw [IntKind.wrap_i64]; omega
    have hneg : ¬ (j1 : Int) < 0 := by omega
    by_cases hlt : j1 < n
    · have h1n : ¬ (n : Int) ≤ j1 := by omega
      obtain ⟨j2, hj2⟩ : ∃ j2, j2 = j1 + 1 := ⟨_, rfl⟩
      have hw3 : IntKind.i64.wrap ((j1 : Int) + 1) = (j2 : Int) := by rw [IntKind.wrap_i64]; omega
      have hEn : n ≤ E1.length := by rw [HQ.out.len]; exact HN.out
      have HC := Lib.hid (fun W' (hW : QM w0 b E1 W' ∧ W'.cell? ⟨b, 0, none⟩ = some v) (x y : Nat) (hx : x < n) (hy : y < n) => hW.1.less v hW.2 x y (by omega) (by omega))
      have HSW := Lib.hid (fun W' (hW : QM w0 b E1 W' ∧ W'.cell? ⟨b, 0, none⟩ = some v) (x y : Nat) (hx : x < n) (hy : y < n) => hW.1.swap v hW.2 x y (by omega) (by omega))
      have hml := meth_less b wr v HQ.out.cell
      by_cases hlt2 : j2 < n
      · have h2n : (j2 : Int) < n := by omega
        by_cases hk : ky (ndE E1) j2 < ky (ndE E1) j1
        · have HL1 : Hid (Calls Try.prog 62 #[v, .int .i64 j2, .int .i64 j1] wr fun e w' => e = .returned (.bool true) ∧ Below wr.heap.size wr w') := Lib.hid (by have := HC.out wr ⟨HQ.out.q, HQ.out.cell⟩ j2 j1 hlt2 hlt; rwa [decide_eq_true hk] at this)
          have H1 : Hid (ky (ndE E1) j2 ≤ ky (ndE E1) (2 * i + 1)) := Lib.hid (by rw [← hj1]; omega)
          have H2 : Hid (2 * i + 2 < n → ky (ndE E1) j2 ≤ ky (ndE E1) (2 * i + 2)) := Lib.hid fun _ => by rw [show 2 * i + 2 = j2 by omega]; omega
          by_cases hk2 : ky (ndE E1) j2 < ky (ndE E1) i
          · have HL2 : Hid (∀ W', QM w0 b E1 W' ∧ W'.cell? ⟨b, 0, none⟩ = some v → Calls Try.prog 62 #[v, .int .i64 j2, .int .i64 i] W' fun e w' => e = .returned (.bool true) ∧ Below W'.heap.size W' w') := Lib.hid fun W' hW => by have := HC.out W' hW j2 i hlt2 (by omega); rwa [decide_eq_true hk2] at this
            have HDS := Lib.hid (HD.out.step (j := j2) hloi (by rw [ndE_len]; exact hEn) (by omega) hlt2 H1.out H2.out hk2)
            rw [← ndE_swE E1 i j2 (by omega) (by omega)] at HDS
            have hlo2 : lo ≤ j2 := by omega
            have hjb : j2 ≤ 100000 := by omega
            have HSZ : Hid (i < n ∧ j2 < n ∧ n ≤ E.length) := Lib.hid ⟨by omega, hlt2, HN.out⟩
            have HMS : n - j2 < n - i := by omega
            clear hk2 H1 H2 hk HC hEn hj1 hj2
            go_wp2_with (first
              | (go_at_call 62; (with_reducible refine (HL1.out).mono ?_); rintro e w2 ⟨rfl, hb2⟩; have HQ2 := Lib.hid (HQ.out.past hb2); have hml2 := meth_less b w2 v HQ2.out.cell; clear hb2 HL1)
              | (go_at_call 62; (with_reducible refine (HL2.out w2 ⟨HQ2.out.q, HQ2.out.cell⟩).mono ?_); rintro e w3 ⟨rfl, hb3⟩; have HQ3 := Lib.hid (HQ2.out.past hb3); have hms3 := meth_swap b w3 v HQ3.out.cell; clear hb3 HL2)
              | (go_at_call 63; (with_reducible refine (HSW.out w3 ⟨HQ3.out.q, HQ3.out.cell⟩ i j2 HSZ.out.1 HSZ.out.2.1).mono ?_); rintro e w4 ⟨rfl, hq4, hf4, hc4, hr4⟩; have HQ4 := Lib.hid (HQ3.out.swap HSZ.out.1 HSZ.out.2.1 HSZ.out.2.2 hq4 hf4 hc4 hr4); clear hq4 hf4 hc4 hr4))
            go_roundw
            case rel => exact ⟨j2, _, rfl, hjb, hlo2, HDS, HQ4⟩
            case measure => simp [intOf]; omega
          · have HL2 : Hid (∀ W', QM w0 b E1 W' ∧ W'.cell? ⟨b, 0, none⟩ = some v → Calls Try.prog 62 #[v, .int .i64 j2, .int .i64 i] W' fun e w' => e = .returned (.bool false) ∧ Below W'.heap.size W' w') := Lib.hid fun W' hW => by have := HC.out W' hW j2 i hlt2 (by omega); rwa [decide_eq_false hk2] at this
            have HZ := Lib.hid (HD.out.done (j := j2) (fun _ => H1.out) H2.out (by omega))
            have hlo2 : lo ≤ j2 := by omega
            have hjb : j2 ≤ 100000 := by omega
            have HSZ : Hid (i < n ∧ j2 < n ∧ n ≤ E.length) := Lib.hid ⟨by omega, hlt2, HN.out⟩
            have HMS : n - j2 < n - i := by omega
            clear hk2 H1 H2 hk HC hEn hj1 hj2
            go_wp2_with (first
              | (go_at_call 62; (with_reducible refine (HL1.out).mono ?_); rintro e w2 ⟨rfl, hb2⟩; have HQ2 := Lib.hid (HQ.out.past hb2); have hml2 := meth_less b w2 v HQ2.out.cell; clear hb2 HL1)
              | (go_at_call 62; (with_reducible refine (HL2.out w2 ⟨HQ2.out.q, HQ2.out.cell⟩).mono ?_); rintro e w3 ⟨rfl, hb3⟩; have HQ3 := Lib.hid (HQ2.out.past hb3); have hms3 := meth_swap b w3 v HQ3.out.cell; clear hb3 HL2))
            go_ret
            exact ⟨⟨_, rfl⟩, E1, HQ3.out, HZ.out⟩
        · have HL1 : Hid (Calls Try.prog 62 #[v, .int .i64 j2, .int .i64 j1] wr fun e w' => e = .returned (.bool false) ∧ Below wr.heap.size wr w') := Lib.hid (by have := HC.out wr ⟨HQ.out.q, HQ.out.cell⟩ j2 j1 hlt2 hlt; rwa [decide_eq_false hk] at this)
          have H1 : Hid (ky (ndE E1) j1 ≤ ky (ndE E1) (2 * i + 1)) := Lib.hid (by rw [← hj1]; omega)
          have H2 : Hid (2 * i + 2 < n → ky (ndE E1) j1 ≤ ky (ndE E1) (2 * i + 2)) := Lib.hid fun _ => by rw [show 2 * i + 2 = j2 by omega]; omega
          by_cases hk2 : ky (ndE E1) j1 < ky (ndE E1) i
          · have HL2 : Hid (∀ W', QM w0 b E1 W' ∧ W'.cell? ⟨b, 0, none⟩ = some v → Calls Try.prog 62 #[v, .int .i64 j1, .int .i64 i] W' fun e w' => e = .returned (.bool true) ∧ Below W'.heap.size W' w') := Lib.hid fun W' hW => by have := HC.out W' hW j1 i hlt (by omega); rwa [decide_eq_true hk2] at this
            have HDS := Lib.hid (HD.out.step (j := j1) hloi (by rw [ndE_len]; exact hEn) (by omega) hlt H1.out H2.out hk2)
            rw [← ndE_swE E1 i j1 (by omega) (by omega)] at HDS
            have hlo2 : lo ≤ j1 := by omega
            have hjb : j1 ≤ 100000 := by omega
            have HSZ : Hid (i < n ∧ j1 < n ∧ n ≤ E.length) := Lib.hid ⟨by omega, hlt, HN.out⟩
            have HMS : n - j1 < n - i := by omega
            clear hk2 H1 H2 hk HC hEn hj1 hj2
            go_wp2_with (first
              | (go_at_call 62; (with_reducible refine (HL1.out).mono ?_); rintro e w2 ⟨rfl, hb2⟩; have HQ2 := Lib.hid (HQ.out.past hb2); have hml2 := meth_less b w2 v HQ2.out.cell; clear hb2 HL1)
              | (go_at_call 62; (with_reducible refine (HL2.out w2 ⟨HQ2.out.q, HQ2.out.cell⟩).mono ?_); rintro e w3 ⟨rfl, hb3⟩; have HQ3 := Lib.hid (HQ2.out.past hb3); have hms3 := meth_swap b w3 v HQ3.out.cell; clear hb3 HL2)
              | (go_at_call 63; (with_reducible refine (HSW.out w3 ⟨HQ3.out.q, HQ3.out.cell⟩ i j1 HSZ.out.1 HSZ.out.2.1).mono ?_); rintro e w4 ⟨rfl, hq4, hf4, hc4, hr4⟩; have HQ4 := Lib.hid (HQ3.out.swap HSZ.out.1 HSZ.out.2.1 HSZ.out.2.2 hq4 hf4 hc4 hr4); clear hq4 hf4 hc4 hr4))
            go_roundw
            case rel => exact ⟨j1, _, rfl, hjb, hlo2, HDS, HQ4⟩
            case measure => simp [intOf]; omega
          · have HL2 : Hid (∀ W', QM w0 b E1 W' ∧ W'.cell? ⟨b, 0, none⟩ = some v → Calls Try.prog 62 #[v, .int .i64 j1, .int .i64 i] W' fun e w' => e = .returned (.bool false) ∧ Below W'.heap.size W' w') := Lib.hid fun W' hW => by have := HC.out W' hW j1 i hlt (by omega); rwa [decide_eq_false hk2] at this
            have HZ := Lib.hid (HD.out.done (j := j1) (fun _ => H1.out) H2.out (by omega))
            have hlo2 : lo ≤ j1 := by omega
            have hjb : j1 ≤ 100000 := by omega
            have HSZ : Hid (i < n ∧ j1 < n ∧ n ≤ E.length) := Lib.hid ⟨by omega, hlt, HN.out⟩
            have HMS : n - j1 < n - i := by omega
            clear hk2 H1 H2 hk HC hEn hj1 hj2
            go_wp2_with (first
              | (go_at_call 62; (with_reducible refine (HL1.out).mono ?_); rintro e w2 ⟨rfl, hb2⟩; have HQ2 := Lib.hid (HQ.out.past hb2); have hml2 := meth_less b w2 v HQ2.out.cell; clear hb2 HL1)
              | (go_at_call 62; (with_reducible refine (HL2.out w2 ⟨HQ2.out.q, HQ2.out.cell⟩).mono ?_); rintro e w3 ⟨rfl, hb3⟩; have HQ3 := Lib.hid (HQ2.out.past hb3); have hms3 := meth_swap b w3 v HQ3.out.cell; clear hb3 HL2))
            go_ret
            exact ⟨⟨_, rfl⟩, E1, HQ3.out, HZ.out⟩
      · have h2n : ¬ (j2 : Int) < n := by omega
        have H1 : Hid (ky (ndE E1) j1 ≤ ky (ndE E1) (2 * i + 1)) := Lib.hid (by rw [← hj1]; omega)
        have H2 : Hid (2 * i + 2 < n → ky (ndE E1) j1 ≤ ky (ndE E1) (2 * i + 2)) := Lib.hid fun h => by omega
        by_cases hk2 : ky (ndE E1) j1 < ky (ndE E1) i
        · have HL2 : Hid (∀ W', QM w0 b E1 W' ∧ W'.cell? ⟨b, 0, none⟩ = some v → Calls Try.prog 62 #[v, .int .i64 j1, .int .i64 i] W' fun e w' => e = .returned (.bool true) ∧ Below W'.heap.size W' w') := Lib.hid fun W' hW => by have := HC.out W' hW j1 i hlt (by omega); rwa [decide_eq_true hk2] at this
          have HDS := Lib.hid (HD.out.step (j := j1) hloi (by rw [ndE_len]; exact hEn) (by omega) hlt H1.out H2.out hk2)
          rw [← ndE_swE E1 i j1 (by omega) (by omega)] at HDS
          have hlo2 : lo ≤ j1 := by omega
          have hjb : j1 ≤ 100000 := by omega
          have HSZ : Hid (i < n ∧ j1 < n ∧ n ≤ E.length) := Lib.hid ⟨by omega, hlt, HN.out⟩
          have HMS : n - j1 < n - i := by omega
          clear hk2 H1 H2 HC hEn hj1 hj2
          go_wp2_with (first
            | (go_at_call 62; (with_reducible refine (HL2.out wr ⟨HQ.out.q, HQ.out.cell⟩).mono ?_); rintro e w3 ⟨rfl, hb3⟩; have HQ3 := Lib.hid (HQ.out.past hb3); have hms3 := meth_swap b w3 v HQ3.out.cell; clear hb3 HL2)
            | (go_at_call 63; (with_reducible refine (HSW.out w3 ⟨HQ3.out.q, HQ3.out.cell⟩ i j1 HSZ.out.1 HSZ.out.2.1).mono ?_); rintro e w4 ⟨rfl, hq4, hf4, hc4, hr4⟩; have HQ4 := Lib.hid (HQ3.out.swap HSZ.out.1 HSZ.out.2.1 HSZ.out.2.2 hq4 hf4 hc4 hr4); clear hq4 hf4 hc4 hr4))
          go_roundw
          case rel => exact ⟨j1, _, rfl, hjb, hlo2, HDS, HQ4⟩
          case measure => simp [intOf]; omega
        · have HL2 : Hid (∀ W', QM w0 b E1 W' ∧ W'.cell? ⟨b, 0, none⟩ = some v → Calls Try.prog 62 #[v, .int .i64 j1, .int .i64 i] W' fun e w' => e = .returned (.bool false) ∧ Below W'.heap.size W' w') := Lib.hid fun W' hW => by have := HC.out W' hW j1 i hlt (by omega); rwa [decide_eq_false hk2] at this
          have HZ := Lib.hid (HD.out.done (j := j1) (fun _ => H1.out) H2.out (by omega))
          have hlo2 : lo ≤ j1 := by omega
          have hjb : j1 ≤ 100000 := by omega
          have HSZ : Hid (i < n ∧ j1 < n ∧ n ≤ E.length) := Lib.hid ⟨by omega, hlt, HN.out⟩
          have HMS : n - j1 < n - i := by omega
          clear hk2 H1 H2 HC hEn hj1 hj2
          go_wp2_with (first
            | (go_at_call 62; (with_reducible refine (HL2.out wr ⟨HQ.out.q, HQ.out.cell⟩).mono ?_); rintro e w3 ⟨rfl, hb3⟩; have HQ3 := Lib.hid (HQ.out.past hb3); have hms3 := meth_swap b w3 v HQ3.out.cell; clear hb3 HL2))
          go_ret
          exact ⟨⟨_, rfl⟩, E1, HQ3.out, HZ.out⟩
    · have h1n : (n : Int) ≤ j1 := by omega
      have HZ := Lib.hid (HD.out.leaf (by omega))
      go_wp2
      go_ret
      exact ⟨⟨_, rfl⟩, E1, HQ.out, HZ.out⟩
set_option maxRecDepth 100000 in
set_option maxHeartbeats 8000000 in
theorem up_any (w0 : World) (b j0 : Nat) (E : List Ent) (v : Value) (hn : j0 < E.length) (hl : E.length ≤ 100000) (hU : UI E.length j0 (ndE E)) (W : World) (h : QM w0 b E W) (hv : W.cell? ⟨b, 0, none⟩ = some v) :
    Calls Try.prog 37 #[.iface 53 (.pointer (some ⟨b, 0, none⟩)), .int .i64 j0] W fun e w' => e = .returned (.tuple #[]) ∧ ∃ E', QD w0 b E v W E.length 0 E' w' ∧ HP E.length 0 (ndE E') := by
  have HQ0 := Lib.hid (QD.refl (n := E.length) (lo := 0) h hv)
  have HU0 := Lib.hid hU
  have hj0i : j0 ≤ 100000 := by omega
  clear h hv hU
  go_enter Try.func37, Try.ntmps37
  go_wp2
  go_loopw [1] (fun q wr => ∃ (j : Nat) (E1 : List Ent), q = .int .i64 j ∧ j < E.length ∧ Hid (UI E.length j (ndE E1)) ∧ Hid (QD w0 b E v W E.length 0 E1 wr)) (fun q _ => (intOf q).toNat)
  case atStart => exact ⟨j0, E, rfl, hn, HU0, HQ0⟩
  case round =>
    obtain ⟨j, E1, rfl, hj, HU, HQ⟩ := hrel
    obtain ⟨i, hi⟩ : ∃ i, i = (j - 1) / 2 := ⟨_, rfl⟩
    have hw1 : IntKind.i64.wrap ((j : Int) - 1) = (j : Int) - 1 := IntWalk.i64_in _ (by omega)
    have hw2 : IntKind.i64.wrap (((j : Int) - 1).tdiv 2) = (i : Int) := by
      rcases Nat.eq_zero_or_pos j with h0 | h0
      · subst h0
        rw [hi]
        decide
      · rw [Int.tdiv_eq_ediv_of_nonneg (by omega), IntKind.wrap_i64]
        omega
    have hEl := HQ.out.len
    have hml := meth_less b wr v HQ.out.cell
    have HC := Lib.hid (fun W' (hW : QM w0 b E1 W' ∧ W'.cell? ⟨b, 0, none⟩ = some v) (x y : Nat) (hx : x < E.length) (hy : y < E.length) => hW.1.less v hW.2 x y (by omega) (by omega))
    have HSW := Lib.hid (fun W' (hW : QM w0 b E1 W' ∧ W'.cell? ⟨b, 0, none⟩ = some v) (x y : Nat) (hx : x < E.length) (hy : y < E.length) => hW.1.swap v hW.2 x y (by omega) (by omega))
    by_cases hj0 : j = 0
    · have hij : ((i : Int) == j) = true := by simp; omega
      have HZ := Lib.hid (HU.out.done (.inl hj0))
      clear hj0 hi HC HSW
      go_wp2
      (try simp only [Exit.inBlock, Exit.then])
      go_end0
      exact ⟨rfl, E1, HQ.out, HZ.out⟩
    · have hij : ((i : Int) == j) = false := by simp; omega
      have hile : i < E.length := by omega
      by_cases hk : ky (ndE E1) j < ky (ndE E1) i
      · have HL : Hid (Calls Try.prog 62 #[v, .int .i64 j, .int .i64 i] wr fun e w' => e = .returned (.bool true) ∧ Below wr.heap.size wr w') := Lib.hid (by have := HC.out wr ⟨HQ.out.q, HQ.out.cell⟩ j i hj hile; rwa [decide_eq_true hk] at this)
        have HUS : Hid (UI E.length i (ndE (swE E1 i j))) := Lib.hid (by
          rw [ndE_swE E1 i j (by omega) (by omega), hi]
          exact HU.out.step (by rw [ndE_len]; omega) (by omega) hj (by rw [← hi]; exact hk))
        have HSZ : Hid (i < E.length ∧ j < E.length ∧ E.length ≤ E.length) := Lib.hid ⟨hile, hj, Nat.le_refl _⟩
        have HMS : i < j := by omega
        clear hj0 hi HC hk hEl
        go_wp2_with (first
          | (go_at_call 62; (with_reducible refine (HL.out).mono ?_); rintro e w3 ⟨rfl, hb3⟩; have HQ3 := Lib.hid (HQ.out.past hb3); have hms3 := meth_swap b w3 v HQ3.out.cell; clear hb3 HL)
          | (go_at_call 63; (with_reducible refine (HSW.out w3 ⟨HQ3.out.q, HQ3.out.cell⟩ i j HSZ.out.1 HSZ.out.2.1).mono ?_); rintro e w4 ⟨rfl, hq4, hf4, hc4, hr4⟩; have HQ4 := Lib.hid (HQ3.out.swap HSZ.out.1 HSZ.out.2.1 HSZ.out.2.2 hq4 hf4 hc4 hr4); clear hq4 hf4 hc4 hr4))
        go_roundw
        case rel => exact ⟨i, _, rfl, hile, HUS, HQ4⟩
        case measure => simp [intOf]; omega
      · have HL : Hid (Calls Try.prog 62 #[v, .int .i64 j, .int .i64 i] wr fun e w' => e = .returned (.bool false) ∧ Below wr.heap.size wr w') := Lib.hid (by have := HC.out wr ⟨HQ.out.q, HQ.out.cell⟩ j i hj hile; rwa [decide_eq_false hk] at this)
        have HZ := Lib.hid (HU.out.done (.inr (by rw [← hi]; omega)))
        clear hj0 hi HC HSW hk hEl
        go_wp2_with (go_at_call 62; (with_reducible refine (HL.out).mono ?_); rintro e w3 ⟨rfl, hb3⟩; have HQ3 := Lib.hid (HQ.out.past hb3); clear hb3 HL)
        (try simp only [Exit.inBlock, Exit.then])
        go_end0
        exact ⟨rfl, E1, HQ3.out, HZ.out⟩

end Go.Proofs.Ytjifekdjkjnefaa
