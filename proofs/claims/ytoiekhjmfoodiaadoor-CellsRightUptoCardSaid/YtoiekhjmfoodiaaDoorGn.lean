/- The walks of slices.ContainsFunc and IndexFunc at cells, of isWrong; of Right. -/
import Derived.Test.YtoiekhjmfoodiaaDoorGm
namespace Go.Proofs.YtoiekhjmfoodiaaDoor
open Go.RowKit

/-- Is there a cell of which p is true? -/
def anyC (p : CC → Bool) (l : List CC) : Bool := (List.range l.length).any fun k => p (Ac l k)
theorem anyC_yes {p : CC → Bool} {l : List CC} (k : Nat) (hk : k < l.length) (h : p (Ac l k) = true) : anyC p l = true :=
  List.any_eq_true.2 ⟨k, List.mem_range.2 hk, h⟩
theorem anyC_no {p : CC → Bool} {l : List CC} (h : ∀ k, k < l.length → p (Ac l k) = false) : anyC p l = false :=
  List.any_eq_false.2 fun k hk => by rw [h k (List.mem_range.1 hk)]; simp
/-- What a cell's test answers, in any world that only grew. -/
def Tests (p : CC → Bool) (l : List CC) (w : World) : Prop :=
  ∀ k, k < l.length → ∀ W, Below w.heap.size w W → Calls Tryd.prog 26 #[.agg #[.int .i32 (Ac l k).r, .string (Ac l k).m, .int .i64 (Ac l k).h, .int .i64 (Ac l k).fk, .int .i64 (Ac l k).fn, .int .i64 (Ac l k).bk, .int .i64 (Ac l k).bn, .int .i64 (Ac l k).fl]] W fun e w' => e = .returned (.bool (p (Ac l k))) ∧ Below W.heap.size W w'
set_option maxRecDepth 100000 in
set_option maxHeartbeats 4000000 in
theorem indexWrong_any (p : CC → Bool) (A : Option Addr) (l : List CC) (n c : Nat) (hn : n = l.length) (hl : n ≤ 1000000) (w : World) (h : RC w w.heap.size A l) (hp : Tests p l w) :
    Calls Tryd.prog 52 #[.slice A n c, .func (.func 26) #[] #[]] w fun e w' => ∃ z : Int, e = .returned (.int .i64 z) ∧ Below w.heap.size w w' ∧ ((∃ k : Nat, z = k ∧ anyC p l = true) ∨ (z = -1 ∧ anyC p l = false)) := by
  have HR := Lib.hid h
  have HN := Lib.hid hn
  have HP := Lib.hid hp
  clear h hn hp
  go_enter Tryd.func52, Tryd.ntmps52
  go_wp2
  go_loopw [8] (fun q wr => ∃ k : Nat, q = .int .i64 k ∧ k ≤ n ∧ Hid (∀ j, j < k → p (Ac l j) = false) ∧ Hid (Below w.heap.size w wr)) (fun q _ => n - (intOf q).toNat)
  case atStart => exact ⟨0, rfl, Nat.zero_le _, Lib.hid (fun j hj => by omega), Lib.hid (Below.refl _ _)⟩
  case round =>
    obtain ⟨k, rfl, hk, HK, HB⟩ := hrel
    by_cases hlt : k < n
    · have hki : (k : Int) < n := by omega
      obtain ⟨b, off, rfl, hG⟩ := HR.out.at (fun e => by have := HN.out; rw [e] at this; simp at this; omega)
      obtain ⟨G0, GA⟩ := hG _ HB.out
      obtain ⟨a0, a1, a2, a3, a4, a5, a6, a7⟩ := GA k (by have := HN.out; omega)
      have HT := Lib.hid (HP.out k (by have := HN.out; omega) wr HB.out)
      clear hG GA
      cases hq : p (Ac l k) with
      | true =>
        rw [hq] at HT
        have HS := Lib.hid (anyC_yes k (by have := HN.out; omega) hq)
        clear hq HK HP
        generalize Ac l k = x at *
        go_wp2_with (go_at_call 26; (with_reducible refine (HT.out).mono ?_); rintro e w1 ⟨rfl, hb⟩; have HB1 := Lib.hid (bel0 HB.out hb); clear hb)
        go_ret
        exact ⟨_, rfl, HB1.out, .inl ⟨k, rfl, HS.out⟩⟩
      | false =>
        rw [hq] at HT
        have HKN : Hid (∀ j, j < k + 1 → p (Ac l j) = false) := Lib.hid fun j hj => by
          rcases (by omega : j < k ∨ j = k) with h | rfl
          · exact HK.out j h
          · exact hq
        clear hq HK
        generalize Ac l k = x at *
        go_wp2_with (go_at_call 26; (with_reducible refine (HT.out).mono ?_); rintro e w1 ⟨rfl, hb⟩; have HB1 := Lib.hid (bel0 HB.out hb); clear hb)
        go_roundw
        case rel => exact ⟨k + 1, by go_num, hlt, HKN, HB1⟩
        case measure => simp [intOf]; omega
    · obtain rfl : k = n := by omega
      have HS := Lib.hid (anyC_no (p := p) (l := l) (fun j hj => HK.out j (by have := HN.out; omega)))
      clear HK HP
      go_wp2
      go_ret
      exact ⟨_, rfl, HB.out, .inr ⟨rfl, HS.out⟩⟩
set_option maxRecDepth 100000 in
set_option maxHeartbeats 4000000 in
theorem containsWrong_any (p : CC → Bool) (A : Option Addr) (l : List CC) (n c : Nat) (hn : n = l.length) (hl : n ≤ 1000000) (w : World) (h : RC w w.heap.size A l) (hp : Tests p l w) :
    Calls Tryd.prog 25 #[.slice A n c, .func (.func 26) #[] #[]] w fun e w' => e = .returned (.bool (anyC p l)) ∧ Below w.heap.size w w' := by
  have HI := Lib.hid (indexWrong_any p A l n c hn hl w h hp)
  clear h hn hp hl
  go_enter Tryd.func25, Tryd.ntmps25
  go_wp2_with (go_at_call 52; (with_reducible refine (HI.out).mono ?_); rintro e w1 ⟨z, rfl, hb, hz⟩; have HB := Lib.hid hb; have HZ := Lib.hid hz; clear hb hz)
  go_ret
  refine ⟨?_, HB.out⟩
  rcases HZ.out with ⟨k, rfl, hq⟩ | ⟨rfl, hq⟩
  · rw [hq, decide_eq_true (by omega)]
    rfl
  · rw [hq]
    rfl
/-- A cell in which nothing was written: is it wrong? -/
theorem isWrong_zero (x : CC) (hr : x.r = 0) (hm : x.m = ⟨#[]⟩) (hh : x.h = 0) (w : World) : Calls Tryd.prog 26 #[.agg #[.int .i32 x.r, .string x.m, .int .i64 x.h, .int .i64 x.fk, .int .i64 x.fn, .int .i64 x.bk, .int .i64 x.bn, .int .i64 x.fl]] w fun e w' => e = .returned (.bool false) ∧ Below w.heap.size w w' := by
  obtain ⟨r, m, h, a1, a2, a3, a4, a5⟩ := x
  have hr : r = 0 := hr
  have hm : m = ⟨#[]⟩ := hm
  have hh : h = 0 := hh
  subst hr; subst hm; subst hh
  show Calls Tryd.prog 26 #[.agg #[.int .i32 0, .string ⟨#[]⟩, .int .i64 0, .int .i64 a1, .int .i64 a2, .int .i64 a3, .int .i64 a4, .int .i64 a5]] w fun e w' => e = .returned (.bool false) ∧ Below w.heap.size w w'
  go_enter Tryd.func26, Tryd.ntmps26
  go_wp2
  go_ret
  exact ⟨(by simp), belA (Below.refl _ _) _⟩
set_option maxRecDepth 100000 in
set_option maxHeartbeats 4000000 in
theorem right_any (p : CC → Bool) (A : Option Addr) (l : List CC) (n c : Nat) (hn : n = l.length) (hl : n ≤ 1000) (w : World) (h : RC w w.heap.size A l) (hp : Tests p l w) :
    Calls Tryd.prog 9 #[.slice A n c] w fun e w' => e = .returned (.bool (sameC (mendL l) l && !anyC p l)) ∧ Below w.heap.size w w' := by
  have HM := Lib.hid (mend_any A l n c hn hl w h)
  have HE : Hid (∀ W A' c', Below w.heap.size w W → RC W W.heap.size A' (mendL l) → Calls Tryd.prog 24 #[.slice A' n c', .slice A n c] W fun e w' => e = .returned (.bool (sameC (mendL l) l)) ∧ Below W.heap.size W w') := Lib.hid fun W A' c' hW hr => equalC_any A' A (mendL l) l n n c' c (by rw [mendL_len]; exact hn) hn (by omega) W hr (h.past hW)
  have HC : Hid (∀ W, Below w.heap.size w W → Calls Tryd.prog 25 #[.slice A n c, .func (.func 26) #[] #[]] W fun e w' => e = .returned (.bool (anyC p l)) ∧ Below W.heap.size W w') := Lib.hid fun W hW => containsWrong_any p A l n c hn (by omega) W (h.past hW) fun k hk W' hW' => hp k hk W' (bel0 hW hW')
  have HF : Hid (∀ W v, OC w.heap.size W v (mendL l) → ∃ A' c', v = .slice A' n c' ∧ RC W W.heap.size A' (mendL l)) := Lib.hid fun W v ho => by
    obtain ⟨A', c', e, hr⟩ := ho.form
    exact ⟨A', c', by rw [e, mendL_len, ← hn], hr⟩
  clear h hn hp hl
  cases hs : sameC (mendL l) l <;> cases hq : anyC p l
  all_goals
    rw [hs] at HE
    rw [hq] at HC
    clear hs hq
    generalize mendL l = ml at *
    go_enter Tryd.func9, Tryd.ntmps9
    go_wp2_with (first
      | (go_at_call 12; (with_reducible refine (HM.out).mono ?_); rintro e w1 ⟨v, rfl, ho, hb⟩; obtain ⟨A', c', rfl, hr⟩ := HF.out _ _ ho; have HB1 := Lib.hid hb; have HR1 := Lib.hid hr; clear ho hb hr)
      | (go_at_call 24; (with_reducible refine (HE.out _ _ _ HB1.out HR1.out).mono ?_); rintro e w2 ⟨rfl, hb⟩; have HB2 := Lib.hid (bel0 HB1.out hb); clear hb)
      | (go_at_call 25; (with_reducible refine (HC.out _ HB2.out).mono ?_); rintro e w3 ⟨rfl, hb⟩; have HB3 := Lib.hid (bel0 HB2.out hb); clear hb))
    go_ret
    first
      | exact ⟨rfl, HB3.out⟩
      | exact ⟨rfl, HB2.out⟩
/-- Blanks are right. -/
theorem mendL_plain : ∀ l : List CC, (∀ x ∈ l, x.h = 0) → mendL l = l
  | [], _ => rfl
  | [x], h => by
    have hx := h x (by simp)
    unfold mendL
    rw [if_pos (.inl hx)]
  | x :: y :: t, h => by
    have hx := h x (by simp)
    have hp : pairB x y = false := by unfold pairB; rw [hx]; rfl
    unfold mendL
    rw [if_neg (by rw [hp]; decide), if_pos hx, mendL_plain (y :: t) fun z hz => h z (List.mem_cons_of_mem _ hz)]
theorem rightBlanks_any (k n : Int) (m : Nat) (hm : m ≤ 1000) (A : Option Addr) (c : Nat) (w : World) (h : RC w w.heap.size A (List.replicate m (blankC k n))) :
    Calls Tryd.prog 9 #[.slice A m c] w fun e w' => e = .returned (.bool true) ∧ Below w.heap.size w w' := by
  have hat : ∀ j, j < (List.replicate m (blankC k n)).length → Ac (List.replicate m (blankC k n)) j = blankC k n := fun j hj => by
    unfold Ac
    rw [List.getElem?_replicate, if_pos (by simpa using hj)]
    rfl
  have h1 := right_any (fun _ => false) A (List.replicate m (blankC k n)) m c (by simp) hm w h fun j hj W hW => by
    rw [hat j hj]
    exact isWrong_zero (blankC k n) rfl rfl rfl W
  have e1 : mendL (List.replicate m (blankC k n)) = List.replicate m (blankC k n) := mendL_plain _ fun x hx => by
    rw [(List.mem_replicate.1 hx).2]
    rfl
  have e2 : anyC (fun _ => false) (List.replicate m (blankC k n)) = false := anyC_no fun _ _ => rfl
  rw [e1, sameC_self, e2] at h1
  exact h1
end Go.Proofs.YtoiekhjmfoodiaaDoor
