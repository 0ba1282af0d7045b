/- Step, of any numbers; the example. -/
import Derived.Test.YtfgnlohnalgnpaaJ8
namespace Go.Proofs.Ytfgnlohnalgnpaa
open Go.RowKit

theorem step_any (A : Option Addr) (l : List Int) (n c : Nat) (hn : n = l.length) (hl : n ≤ 1000000) (at_ nn : Int) (hnn : InB nn) (w : World) (h : RI w w.heap.size A l) :
    Calls Try.prog 16 #[.slice A n c, .int .i64 at_, .int .i64 nn] w fun e w' => e = .returned (.int .i64 (stepV (uqI l) at_ nn)) ∧ Below w.heap.size w w' := by
  have hU := uqI_rise l
  have hlen : (uqI l).length ≤ 1000000 := Nat.le_trans (uqI_len l) (by omega)
  have HS := Lib.hid (sort_any A l n c hn hl w h)
  have HB : Hid (∀ W A1 c1, RI W W.heap.size A1 (uqI l) → Calls Try.prog 31 #[.slice A1 (uqI l).length c1, .int .i64 at_] W fun e w' => e = .returned (.tuple #[.int .i64 (belV (uqI l) at_ : Nat), .bool ((uqI l).contains at_)]) ∧ ∃ q, w' = W.drewN q) := Lib.hid fun W A1 c1 h => bsearch_any A1 (uqI l) _ c1 rfl hlen hU at_ W h
  have hbl := bel_le (uqI l) at_
  have hab : abvV (uqI l) at_ = belV (uqI l) at_ + if (uqI l).contains at_ then 1 else 0 := rfl
  have hal := (abv_lo hU at_).1
  obtain ⟨h1, h2⟩ := hnn
  generalize hb : belV (uqI l) at_ = bl at *
  cases hf : (uqI l).contains at_ with
  | true =>
    rw [hf] at HB hab
    simp only [if_true] at hab
    unfold stepV
    rw [hab, hb]
    by_cases hp : 0 < nn
    · by_cases hq : bl + 1 < (uqI l).length
      · rw [if_pos ⟨hp, hq⟩]
        exact step_upT A l n c at_ nn bl _ rfl hlen w HS HB ⟨hp, h2⟩ _ rfl hq
      · rw [if_neg (fun h => hq h.2), if_neg (by omega)]
        exact step_at2T A l n c at_ nn bl _ rfl hlen hbl w HS HB hp (by omega)
    · rw [if_neg (fun h => hp h.1)]
      by_cases hz : nn = 0
      · rw [if_neg (by omega)]
        exact step_at1T A l n c at_ nn bl _ rfl hlen hbl w HS HB hz
      · by_cases hq : 0 < bl
        · rw [if_pos ⟨by omega, hq⟩]
          exact step_dnT A l n c at_ nn bl _ rfl hlen hbl w HS HB ⟨by omega, h1⟩ _ rfl hq
        · rw [if_neg (fun h => hq h.2)]
          exact step_at3T A l n c at_ nn bl _ rfl w HS HB (by omega) (by omega)
  | false =>
    rw [hf] at HB hab
    simp only [Bool.false_eq_true, if_false, Nat.add_zero] at hab
    unfold stepV
    rw [hab, hb]
    by_cases hp : 0 < nn
    · by_cases hq : bl < (uqI l).length
      · rw [if_pos ⟨hp, hq⟩]
        exact step_upF A l n c at_ nn bl _ rfl hlen w HS HB ⟨hp, h2⟩ _ rfl hq
      · rw [if_neg (fun h => hq h.2), if_neg (by omega)]
        exact step_at2F A l n c at_ nn bl _ rfl w HS HB hp (by omega)
    · rw [if_neg (fun h => hp h.1)]
      by_cases hz : nn = 0
      · rw [if_neg (by omega)]
        exact step_at1F A l n c at_ nn bl _ rfl w HS HB hz
      · by_cases hq : 0 < bl
        · rw [if_pos ⟨by omega, hq⟩]
          exact step_dnF A l n c at_ nn bl _ rfl hlen hbl w HS HB ⟨by omega, h1⟩ _ rfl hq
        · rw [if_neg (fun h => hq h.2)]
          exact step_at3F A l n c at_ nn bl _ rfl w HS HB (by omega) (by omega)
theorem ri_lit3 (W : World) (a b c : Int) : RI (W.alloc (.cells #[.int .i64 a, .int .i64 b, .int .i64 c] 3)) (W.alloc (.cells #[.int .i64 a, .int .i64 b, .int .i64 c] 3)).heap.size (some ⟨W.heap.size, 0, none⟩) [a, b, c] := fun _ =>
  ⟨W.heap.size, 0, rfl, by simp, fun k hk => by
    rw [cell_of_row _ _ _ _ _ _ (heap_alloc_new W _)]
    match k, hk with
    | 0, _ => rfl
    | 1, _ => rfl
    | 2, _ => rfl⟩
theorem uq379 : uqI [3, 7, 9] = [3, 7, 9] :=
  rise_one (uqI_rise _) (by simp) (fun x => uqI_mem _ x)
set_option maxRecDepth 100000 in
set_option maxHeartbeats 4000000 in
theorem awake_any (w : World) : Calls Try.prog 9 #[] w fun e w' => e = .returned (.bool true) ∧ Below w.heap.size w w' := by
  have hin : ∀ x ∈ [(3 : Int), 7, 9], InB x := fun x hx => by
    simp only [List.mem_cons, List.not_mem_nil, or_false] at hx
    unfold InB
    omega
  have HN : Hid (∀ W A c, RI W W.heap.size A [3, 7, 9] → Calls Try.prog 10 #[.slice A 3 c, .int .i64 3] W fun e w' => e = .returned (.tuple #[.int .i64 7, .bool true]) ∧ Below W.heap.size W w') := Lib.hid fun W A c h => by
    have := nextF_any A [3, 7, 9] 3 c rfl (by omega) hin 3 W h
    have e : nextV 3 [3, 7, 9] = (7, true) := by decide
    rwa [e] at this
  have HE : Hid (∀ W A c, RI W W.heap.size A [3, 7, 9] → Calls Try.prog 12 #[.slice A 3 c, .int .i64 5] W fun e w' => e = .returned (.tuple #[.int .i64 3, .bool true]) ∧ Below W.heap.size W w') := Lib.hid fun W A c h => by
    have := nearF_any A [3, 7, 9] 3 c rfl (by omega) hin 5 ⟨by decide, by decide⟩ W h
    have e : nearV 5 [3, 7, 9] = (3, true) := by decide
    rwa [e] at this
  have HT : Hid (∀ W A c, RI W W.heap.size A [3, 7, 9] → Calls Try.prog 16 #[.slice A 3 c, .int .i64 3, .int .i64 5] W fun e w' => e = .returned (.int .i64 9) ∧ Below W.heap.size W w') := Lib.hid fun W A c h => by
    have := step_any A [3, 7, 9] 3 c rfl (by omega) 3 5 ⟨by decide, by decide⟩ W h
    rw [uq379] at this
    have e : stepV [3, 7, 9] 3 5 = 9 := by decide
    rwa [e] at this
  have HR := Lib.hid (ri_lit3 w 3 7 9)
  have HB0 := Lib.hid (belA (Below.refl w.heap.size w) (.cells #[.int .i64 3, .int .i64 7, .int .i64 9] 3))
  go_enter Try.func9, Try.ntmps9
  go_wp2_with (first
    | (go_at_call 10; (with_reducible refine (HN.out _ _ _ HR.out).mono ?_); rintro e w1 ⟨rfl, hb1⟩; have HR1 := Lib.hid (HR.out.past hb1); have HB1 := Lib.hid (bel0 HB0.out hb1); clear hb1 HR HB0)
    | (go_at_call 12; (with_reducible refine (HE.out _ _ _ HR1.out).mono ?_); rintro e w2 ⟨rfl, hb2⟩; have HR2 := Lib.hid (HR1.out.past hb2); have HB2 := Lib.hid (bel0 HB1.out hb2); clear hb2 HR1 HB1)
    | (go_at_call 16; (with_reducible refine (HT.out _ _ _ HR2.out).mono ?_); rintro e w3 ⟨rfl, hb3⟩; have HB3 := Lib.hid (bel0 HB2.out hb3); clear hb3 HR2 HB2))
  go_ret
  exact ⟨rfl, HB3.out⟩

end Go.Proofs.Ytfgnlohnalgnpaa
