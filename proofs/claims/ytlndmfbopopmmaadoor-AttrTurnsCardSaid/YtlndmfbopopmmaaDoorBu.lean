/- The walk of the law AttrKeeps. -/
import Derived.Test.YtlndmfbopopmmaaDoorBm
import Derived.Test.YtlndmfbopopmmaaDoorBz
namespace Go.Proofs.YtlndmfbopopmmaaDoor
open Go.RowKit

/-- An attribute is right. -/
def okAT (a : AT) : Bool := colorB a.fk a.fn && (colorB a.bk a.bn && okF a.fl)
theorem okAT_right (a : AT) (h0 : -9223372036854775808 ≤ a.fl) (h1 : a.fl ≤ 9223372036854775807) : rightB a.fk a.fn a.bk a.bn a.fl = okAT a := by
  rw [right_same _ _ _ _ _ h0 h1]
  rfl
theorem colorB_one (n : Int) (h0 : 0 ≤ n) (h1 : n ≤ 255) : colorB 1 n = true := by
  unfold colorB
  rw [if_pos rfl]
  exact decide_eq_true ⟨h0, h1⟩
theorem colorB_two (n : Int) (h0 : 0 ≤ n) (h1 : n ≤ 16777215) : colorB 2 n = true := by
  unfold colorB
  rw [if_neg (by decide), if_pos rfl]
  exact decide_eq_true ⟨h0, h1⟩
theorem most0_ge (x : Int) : 0 ≤ most0Z x := by unfold most0Z; split <;> omega
theorem atZ_ge (t : List (List Int)) (k : Nat) : 0 ≤ atZ t k := hd0_ge _
theorem most0_lt {x : Int} (h : x < 256) : most0Z x ≤ 255 := by unfold most0Z; split <;> omega
theorem ext_ok (g : List Int) (t : List (List Int)) (h : (extP g t).2.1 = true) : colorB (extP g t).1.1 (extP g t).1.2 = true := by
  unfold extP at h ⊢
  by_cases h1 : 1 < g.length
  · rw [if_pos h1] at h ⊢
    by_cases h5 : g[1]?.getD 0 = 5 ∧ g.length = 3 ∧ g[2]?.getD 0 < 256
    · rw [if_pos h5]
      exact colorB_one _ (most0_ge _) (most0_lt h5.2.2)
    · rw [if_neg h5] at h ⊢
      by_cases h2 : g[1]?.getD 0 = 2 ∧ (g.length = 5 ∨ g.length = 6) ∧ g[g.length - 1]?.getD 0 < 256 ∧ g[g.length - 2]?.getD 0 < 256 ∧ g[g.length - 3]?.getD 0 < 256
      · rw [if_pos h2]
        have a1 := most0_ge (g[g.length - 1]?.getD 0)
        have a2 := most0_ge (g[g.length - 2]?.getD 0)
        have a3 := most0_ge (g[g.length - 3]?.getD 0)
        have b1 := most0_lt h2.2.2.1
        have b2 := most0_lt h2.2.2.2.1
        have b3 := most0_lt h2.2.2.2.2
        have e1 : 0 ≤ 65536 * most0Z (g[g.length - 3]?.getD 0) + 256 * most0Z (g[g.length - 2]?.getD 0) + most0Z (g[g.length - 1]?.getD 0) := by omega
        have e2 : 65536 * most0Z (g[g.length - 3]?.getD 0) + 256 * most0Z (g[g.length - 2]?.getD 0) + most0Z (g[g.length - 1]?.getD 0) ≤ 16777215 := by omega
        exact colorB_two _ e1 e2
      · rw [if_neg h2] at h
        cases h
  · rw [if_neg h1] at h ⊢
    by_cases h5 : atZ t 0 = 5
    · rw [if_pos h5] at h ⊢
      have a := atZ_ge t 1
      simp only [Bool.and_eq_true, decide_eq_true_eq] at h
      have e1 : atZ t 1 ≤ 255 := by omega
      exact colorB_one _ a e1
    · rw [if_neg h5] at h ⊢
      by_cases h2 : atZ t 0 = 2
      · rw [if_pos h2] at h ⊢
        have a1 := atZ_ge t 1
        have a2 := atZ_ge t 2
        have a3 := atZ_ge t 3
        simp only [Bool.and_eq_true, decide_eq_true_eq] at h
        have e1 : 0 ≤ 65536 * atZ t 1 + 256 * atZ t 2 + atZ t 3 := by omega
        have e2 : 65536 * atZ t 1 + 256 * atZ t 2 + atZ t 3 ≤ 16777215 := by omega
        exact colorB_two _ e1 e2
      · rw [if_neg h2] at h
        cases h
theorem told_ok (c : Int × Int) (g : List Int) (t : List (List Int)) (h : colorB c.1 c.2 = true) : colorB (toldP c g t).1.1 (toldP c g t).1.2 = true := by
  rw [(told_te c g t).k, (told_te c g t).n]
  cases ho : (extP g t).2.1 with
  | true => rw [if_pos rfl, if_pos rfl]; exact ext_ok g t ho
  | false => rw [if_neg (by decide), if_neg (by decide)]; exact h
theorem named_ok (k n v : Int) (h : colorB k n = true) : colorB (namedK k v) (namedN n v) = true := by
  unfold namedK namedN
  by_cases h1 : 30 ≤ v ∧ v ≤ 37
  · rw [if_pos h1, if_pos h1]
    exact colorB_one _ (by omega) (by omega)
  · rw [if_neg h1, if_neg h1]
    by_cases h2 : 90 ≤ v ∧ v ≤ 97
    · rw [if_pos h2, if_pos h2]
      exact colorB_one _ (by omega) (by omega)
    · rw [if_neg h2, if_neg h2]
      by_cases h3 : v = 39
      · rw [if_pos h3, if_pos h3]
        rfl
      · rw [if_neg h3, if_neg h3]
        exact h
theorem okAT_parts {a : AT} : okAT a = true ↔ colorB a.fk a.fn = true ∧ colorB a.bk a.bn = true ∧ okF a.fl = true := by
  unfold okAT
  simp only [Bool.and_eq_true]
theorem step_ok (a : AT) (g : List Int) (t : List (List Int)) (h : okAT a = true) : okAT (stepP a g t).1 = true := by
  obtain ⟨h1, h2, h3⟩ := okAT_parts.1 h
  unfold stepP
  split
  · rfl
  · split
    · exact okAT_parts.2 ⟨told_ok (a.fk, a.fn) g t h1, h2, h3⟩
    · split
      · exact okAT_parts.2 ⟨h1, told_ok (a.bk, a.bn) g t h2, h3⟩
      · exact okAT_parts.2 ⟨named_ok _ _ _ h1, named_ok _ _ _ h2, okF_turn _ _ h3⟩
theorem turn_ok : ∀ (n : Nat) (L : List (List Int)) (a : AT), L.length ≤ n → okAT a = true → okAT (turnP a L) = true
  | _, [], a, _, h => by rw [turnP]; exact h
  | 0, _ :: _, _, hl, _ => by simp at hl
  | n + 1, g :: t, a, hl, h => by
    rw [turnP_cons]
    exact turn_ok n _ _ (by rw [List.length_drop]; simp at hl; omega) (step_ok a g t h)
theorem okAT_range {a : AT} (h : okAT a = true) : -9223372036854775808 ≤ a.fl ∧ a.fl ≤ 9223372036854775807 := by
  have := okF_range (okAT_parts.1 h).2.2
  omega
theorem clean_hd (l : List (List Int)) : ∀ g ∈ cleanL l, hd0 g ≤ 65535 := fun g hg => by
  obtain ⟨h1, _, h3⟩ := cleanL_all l g hg
  unfold hd0
  cases g with
  | nil => exact absurd rfl h1
  | cons x r =>
    have := (h3 x (by simp)).2
    show most0Z x ≤ 65535
    unfold most0Z
    split <;> omega

set_option maxHeartbeats 4000000 in
theorem attrKeeps_law (fk fn bk bn fl : Int) (h0 : -9223372036854775808 ≤ fl) (h63 : fl ≤ 9223372036854775807) (A : Option Addr) (l : List (List Int)) (n cp : Nat) (hn : n = l.length) (w : World) (hT : TT w) (hT10 : T10 w.heap.size w) (hR : RG w w.heap.size A l) :
    Calls Tryd.prog 7 #[.agg #[.int .i64 fk, .int .i64 fn, .int .i64 bk, .int .i64 bn, .int .i64 fl], .slice A n cp] w fun e w' => e = .returned (.bool true) ∧ Below w.heap.size w w' := by
  have HA : Hid (∀ W, Below w.heap.size w W → Calls Tryd.prog 10 #[] W fun e w' => e = .returned (.bool true) ∧ Below W.heap.size W w') := Lib.hid fun W hW => awakeA_any W (hT.below hW) (hT10.on hW hW.size)
  have HG : Hid (∀ W, Below w.heap.size w W → Calls Tryd.prog 11 #[.slice A n cp] W fun e w' => e = .returned (.bool (greatB l)) ∧ W = w') := Lib.hid fun W hW => great_any A l n cp hn W ((hR.below hW).more hW.size)
  have HR := Lib.hid (fun W => right_any fk fn bk bn fl W)
  have HB1 := Lib.hid (belA (Below.refl w.heap.size w) (.cells #[.int .i64 fk, .int .i64 fn, .int .i64 bk, .int .i64 bn, .int .i64 fl] 25))
  have hS0 := as_start w (.int .i64 fk) (.int .i64 fn) (.int .i64 bk) (.int .i64 bn) (.int .i64 fl)
  cases hg : greatB l with
  | true =>
    rw [hg] at HG
    clear hT hT10 hR hn hg hS0 h0 h63
    go_enter Tryd.func7, Tryd.ntmps7
    go_wp2_with (first
      | (go_at_call 11; (with_reducible refine (HG.out _ HB1.out).mono ?_); rintro e w' ⟨rfl, rfl⟩)
      | (go_at_call 10; (with_reducible refine (HA.out _ HB1.out).mono ?_); rintro e w2 ⟨rfl, hb2⟩; have HB2 := Lib.hid (bel0 HB1.out hb2); clear hb2))
    go_ret
    exact ⟨rfl, HB2.out⟩
  | false =>
    rw [hg] at HG
    obtain ⟨h60, h20⟩ := great_no hg
    cases hr : rightB fk fn bk bn fl with
    | false =>
      rw [hr] at HR
      clear hT hT10 hR hn hg hS0 h0 h63 hr h60 h20
      go_enter Tryd.func7, Tryd.ntmps7
      go_wp2_with (first
        | (go_at_call 11; (with_reducible refine (HG.out _ HB1.out).mono ?_); rintro e w' ⟨rfl, rfl⟩)
        | (go_at_call 8; (with_reducible refine (HR.out _).mono ?_); rintro e w2 ⟨rfl, hb2⟩; have HB2 := Lib.hid (bel0 HB1.out hb2); clear hb2)
        | (go_at_call 10; (with_reducible refine (HA.out _ HB2.out).mono ?_); rintro e w3 ⟨rfl, hb3⟩; have HB3 := Lib.hid (bel0 HB2.out hb3); clear hb3))
      go_ret
      exact ⟨rfl, HB3.out⟩
    | true =>
      rw [hr] at HR
      have hok : okAT ⟨fk, fn, bk, bn, fl⟩ = true := by rw [← okAT_right ⟨fk, fn, bk, bn, fl⟩ h0 h63]; exact hr
      have hok2 := turn_ok _ (cleanL l) _ (Nat.le_refl _) hok
      have hr2 : rightB (turnP ⟨fk, fn, bk, bn, fl⟩ (cleanL l)).fk (turnP ⟨fk, fn, bk, bn, fl⟩ (cleanL l)).fn (turnP ⟨fk, fn, bk, bn, fl⟩ (cleanL l)).bk (turnP ⟨fk, fn, bk, bn, fl⟩ (cleanL l)).bn (turnP ⟨fk, fn, bk, bn, fl⟩ (cleanL l)).fl = true := by
        rw [okAT_right _ (okAT_range hok2).1 (okAT_range hok2).2]
        exact hok2
      have HC : Hid (∀ W, Below w.heap.size w W → Calls Tryd.prog 12 #[.slice A n cp] W (RowsPost (cleanL l) W)) := Lib.hid fun W hW => refClean_any A l n cp hn (by omega) (fun r hr => by have := h20 r hr; omega) W ((hR.below hW).more hW.size)
      have HTU : Hid (∀ W A c, Below w.heap.size w W → (cleanL l).length ≤ c → RG W W.heap.size A (cleanL l) → Calls Tryd.prog 13 #[.agg #[.int .i64 fk, .int .i64 fn, .int .i64 bk, .int .i64 bn, .int .i64 fl], .slice A (cleanL l).length c] W fun e w' => e = .returned (.agg #[.int .i64 (turnP ⟨fk, fn, bk, bn, fl⟩ (cleanL l)).fk, .int .i64 (turnP ⟨fk, fn, bk, bn, fl⟩ (cleanL l)).fn, .int .i64 (turnP ⟨fk, fn, bk, bn, fl⟩ (cleanL l)).bk, .int .i64 (turnP ⟨fk, fn, bk, bn, fl⟩ (cleanL l)).bn, .int .i64 (turnP ⟨fk, fn, bk, bn, fl⟩ (cleanL l)).fl]) ∧ Below W.heap.size W w') := Lib.hid fun W A c hW hc hr => turn_any ⟨fk, fn, bk, bn, fl⟩ A (cleanL l) _ c rfl hc (fun g hg => (cleanL_all l g hg).1) (clean_hd l) W (hT.below hW) hr
      unfold RowsPost at HC
      generalize turnP ⟨fk, fn, bk, bn, fl⟩ (cleanL l) = x at *
      generalize cleanL l = L at *
      have HR2 : Hid (∀ W, Calls Tryd.prog 8 #[.agg #[.int .i64 x.fk, .int .i64 x.fn, .int .i64 x.bk, .int .i64 x.bn, .int .i64 x.fl]] W fun e w' => e = .returned (.bool true) ∧ Below W.heap.size W w') := Lib.hid fun W => by
        have := right_any x.fk x.fn x.bk x.bn x.fl W
        rw [hr2] at this
        exact this
      clear hT hT10 hR hn hg h0 h63 hr h60 h20 hok hok2 hr2
      have HS0 := Lib.hid hS0
      clear hS0
      go_enter Tryd.func7, Tryd.ntmps7
      go_upto_region 3 with (first
        | (go_at_call 11; (with_reducible refine (HG.out _ HB1.out).mono ?_); rintro e w' ⟨rfl, rfl⟩)
        | (go_at_call 8; (with_reducible refine (HR.out _).mono ?_); rintro e w2 ⟨rfl, hb2⟩; have HS2 := Lib.hid (as_step HS0.out hb2); clear hb2))
      have hSd := as_drew HS2.out
      go_region_held3 (fun W => (W.cell? ⟨w.heap.size, 0, none⟩ = some (.int .i64 fk) ∧ W.cell? ⟨w.heap.size, 1, none⟩ = some (.int .i64 fn) ∧ W.cell? ⟨w.heap.size, 2, none⟩ = some (.int .i64 bk) ∧ W.cell? ⟨w.heap.size, 3, none⟩ = some (.int .i64 bn) ∧ W.cell? ⟨w.heap.size, 4, none⟩ = some (.int .i64 fl)) ∧ w.heap.size < W.heap.size ∧ Below w.heap.size w W)
        (first | exact hSd | exact as_step hSd hb6 | exact as_step (by assumption) hb6)
        (first
          | (go_at_call 12; (with_reducible refine (HC.out _ ?_).mono ?_); (first | exact as_below (by assumption) | exact as_below hSd); rintro e6 w6 ⟨A6, c6, rfl, hl6, hr6, hb6⟩; have HR6 := Lib.hid hr6; clear hr6)
          | (go_at_call 13; (with_reducible refine (HTU.out _ _ _ ?_ ?_ HR6.out).mono ?_); (first | exact as_below (by assumption) | exact as_below hSd); (first | exact hl6 | assumption); rintro e6 w6 ⟨rfl, hb6⟩)
          | (go_at_call 8; (with_reducible refine (HR2.out _).mono ?_); rintro e6 w6 ⟨rfl, hb6⟩)
          | (go_at_call 10; (with_reducible refine (HA.out _ ?_).mono ?_); (first | exact as_below (by assumption) | exact as_below hSd); rintro e6 w6 ⟨rfl, hb6⟩))
      all_goals
        have HBN := Lib.hid (as_below (by assumption))
        go_wp2
        go_ret
        exact ⟨rfl, HBN.out⟩

end Go.Proofs.YtlndmfbopopmmaaDoor
