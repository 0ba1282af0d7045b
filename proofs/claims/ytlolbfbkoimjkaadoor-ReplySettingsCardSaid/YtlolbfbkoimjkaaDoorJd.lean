/- What is told of unlike places is unlike; the law ReplyApart. -/
import Derived.Test.YtlolbfbkoimjkaaDoorJc
namespace Go.Proofs.YtlolbfbkoimjkaaDoor
open Go.RowKit

theorem dec_neM (u : Nat) : Lib.decDigits u ≠ [] := by
  rw [Lib.decDigits]
  split <;> simp
theorem dec_headM (u : Nat) : ∀ x ∈ Lib.decDigits u, 48 ≤ x.toNat ∧ x.toNat ≤ 57 := by
  induction u using Nat.strongRecOn with
  | _ u ih =>
    intro x hx
    rw [Lib.decDigits] at hx
    by_cases h : u < 10
    · rw [dif_pos h] at hx
      rw [List.mem_singleton.1 hx, dec_byte _ h]
      omega
    · rw [dif_neg h] at hx
      rcases List.mem_append.1 hx with h1 | h1
      · exact ih (u / 10) (by omega) x h1
      · rw [List.mem_singleton.1 h1, dec_byte _ (by omega)]
        omega
theorem byte_inj {a b : Nat} (ha : a < 256) (hb : b < 256) (h : UInt8.ofNat a = UInt8.ofNat b) : a = b := by
  have := congrArg UInt8.toNat h
  simp at this
  omega
theorem dec_inj : ∀ (u v : Nat), Lib.decDigits u = Lib.decDigits v → u = v := by
  intro u
  induction u using Nat.strongRecOn with
  | _ u ih =>
    intro v h
    rw [Lib.decDigits, Lib.decDigits.eq_def v] at h
    by_cases h1 : u < 10
    · by_cases h2 : v < 10
      · rw [dif_pos h1, dif_pos h2] at h
        have := byte_inj (by omega) (by omega) (List.cons.inj h).1
        omega
      · rw [dif_pos h1, dif_neg h2] at h
        have := congrArg List.length h
        have h3 := List.length_pos_iff.2 (dec_neM (v / 10))
        rw [List.length_append] at this
        simp only [List.length_cons, List.length_nil] at this
        omega
    · by_cases h2 : v < 10
      · rw [dif_neg h1, dif_pos h2] at h
        have := congrArg List.length h
        have h3 := List.length_pos_iff.2 (dec_neM (u / 10))
        rw [List.length_append] at this
        simp only [List.length_cons, List.length_nil] at this
        omega
      · rw [dif_neg h1, dif_neg h2] at h
        obtain ⟨e1, e2⟩ := List.append_inj' h rfl
        have a1 := ih (u / 10) (by omega) (v / 10) e1
        have a2 := byte_inj (by omega) (by omega) (List.cons.inj e2).1
        omega
theorem itoa_head (n : Int) : ∀ x ∈ Lib.itoa n, x ≠ 63 := by
  intro x hx e
  subst e
  unfold Lib.itoa at hx
  split at hx
  · rcases List.mem_cons.1 hx with h | h
    · exact absurd h (by decide)
    · have := (dec_headM _ _ h).2
      exact absurd this (by decide)
  · have := (dec_headM _ _ hx).2
    exact absurd this (by decide)
theorem itoa_inj {m n : Int} (h : Lib.itoa m = Lib.itoa n) : m = n := by
  have key : ∀ (a b : Nat), Lib.decDigits a ≠ 45 :: Lib.decDigits b := fun a b e => by
    have := (dec_headM a 45 (by rw [e]; exact List.mem_cons_self ..)).1
    exact absurd this (by decide)
  unfold Lib.itoa at h
  by_cases h1 : m < 0 <;> by_cases h2 : n < 0
  · rw [if_pos h1, if_pos h2] at h
    have := dec_inj _ _ (List.cons.inj h).2
    omega
  · rw [if_pos h1, if_neg h2] at h
    exact absurd h.symm (key _ _)
  · rw [if_neg h1, if_pos h2] at h
    exact absurd h (key _ _)
  · rw [if_neg h1, if_neg h2] at h
    have := dec_inj _ _ h
    omega
theorem itoa_semi (z : Int) (h0 : 0 ≤ z) : ∀ x ∈ Lib.itoa z, x ≠ 59 := by
  intro x hx e
  subst e
  rw [Lib.itoa, if_neg (by omega)] at hx
  exact absurd (dec_headM _ _ hx).2 (by decide)
theorem semi_split {A B C D : List UInt8} (hA : ∀ x ∈ A, x ≠ 59) (hC : ∀ x ∈ C, x ≠ 59) (h : A ++ [59] ++ B = C ++ [59] ++ D) : A = C ∧ B = D := by
  induction A generalizing C with
  | nil =>
    cases C with
    | nil => exact ⟨rfl, by simpa using h⟩
    | cons c C =>
      simp at h
      exact absurd h.1.symm (hC c (List.mem_cons_self ..))
  | cons a A ih =>
    cases C with
    | nil =>
      simp at h
      exact absurd h.1 (hA a (List.mem_cons_self ..))
    | cons c C =>
      simp only [List.cons_append, List.cons.injEq] at h
      obtain ⟨e1, e2⟩ := ih (fun x hx => hA x (List.mem_cons_of_mem _ hx)) (fun x hx => hC x (List.mem_cons_of_mem _ hx)) h.2
      exact ⟨by rw [h.1, e1], e2⟩
theorem pair_inj {a b c d : Int} (ha : 0 ≤ a) (hc : 0 ≤ c) (h : Lib.itoa a ++ [59] ++ Lib.itoa b = Lib.itoa c ++ [59] ++ Lib.itoa d) : a = c ∧ b = d := by
  obtain ⟨e1, e2⟩ := semi_split (itoa_semi a ha) (itoa_semi c hc) h
  exact ⟨itoa_inj e1, itoa_inj e2⟩
theorem cur_apart (y x v u : Int) (hy : 0 ≤ y ∧ y < 1000) (hx : 0 ≤ x ∧ x < 1000) (hv : 0 ≤ v ∧ v < 1000) (hu : 0 ≤ u ∧ u < 1000) : ((bsB (curT y x false)).toList == (bsB (curT v u false)).toList) = (y == v && x == u) := by
  rw [bs_toList, bs_toList]
  by_cases h : y = v ∧ x = u
  · obtain ⟨rfl, rfl⟩ := h
    simp
  · have hn : ¬ curT y x false = curT v u false := fun e => by
      simp only [curT, Bool.false_eq_true, if_false, List.append_nil] at e
      have e2 := List.append_cancel_left (List.append_cancel_right e)
      obtain ⟨e3, e4⟩ := pair_inj (by unfold sideZ; omega) (by unfold sideZ; omega) e2
      unfold sideZ at e3 e4
      exact h ⟨by omega, by omega⟩
    rw [beq_false_of_ne hn]
    by_cases h1 : y = v
    · have h2 : ¬ x = u := fun e => h ⟨h1, e⟩
      simp [h2]
    · simp [h1]
theorem size_apart (y x v u : Int) (hy : 0 ≤ y ∧ y < 1000) (hx : 0 ≤ x ∧ x < 1000) (hv : 0 ≤ v ∧ v < 1000) (hu : 0 ≤ u ∧ u < 1000) : ((bsB (sizeT y x)).toList == (bsB (sizeT v u)).toList) = (y == v && x == u) := by
  rw [bs_toList, bs_toList]
  by_cases h : y = v ∧ x = u
  · obtain ⟨rfl, rfl⟩ := h
    simp
  · have hn : ¬ sizeT y x = sizeT v u := fun e => by
      simp only [sizeT] at e
      have e2 := List.append_cancel_left (List.append_cancel_right e)
      have e2' : Lib.itoa 8 ++ [59] ++ (Lib.itoa (sideZ y) ++ [59] ++ Lib.itoa (sideZ x)) = Lib.itoa 8 ++ [59] ++ (Lib.itoa (sideZ v) ++ [59] ++ Lib.itoa (sideZ u)) := by simpa using e2
      obtain ⟨e3, e4⟩ := pair_inj (by unfold sideZ; omega) (by unfold sideZ; omega) (List.append_cancel_left e2')
      unfold sideZ at e3 e4
      exact h ⟨by omega, by omega⟩
    rw [beq_false_of_ne hn]
    by_cases h1 : y = v
    · have h2 : ¬ x = u := fun e => h ⟨h1, e⟩
      simp [h2]
    · simp [h1]
theorem cur_kinds (y x v u : Int) : ((bsB (curT y x true)).toList == (bsB (curT v u false)).toList) = false := by
  rw [bs_toList, bs_toList]
  apply beq_false_of_ne
  intro e
  simp only [curT, Bool.false_eq_true, if_false, if_true, List.append_nil] at e
  have e1 : [63] ++ (Lib.itoa (sideZ y + 1) ++ [59] ++ Lib.itoa (sideZ x + 1)) = Lib.itoa (sideZ v + 1) ++ [59] ++ Lib.itoa (sideZ u + 1) := by
    have := List.append_cancel_right e
    rw [List.append_assoc] at this
    exact List.append_cancel_left this
  have hm : ∀ l : List UInt8, Lib.itoa (sideZ v + 1) = l → l ≠ [] := fun l hl => by
    rw [← hl, Lib.itoa]
    split
    · simp
    · exact dec_neM _
  cases hl : Lib.itoa (sideZ v + 1) with
  | nil => exact hm _ hl rfl
  | cons a l =>
    rw [hl] at e1
    simp at e1
    exact itoa_head (sideZ v + 1) a (by rw [hl]; exact List.mem_cons_self ..) e1.1.symm
theorem beq_b (b : Bool) : (b == b) = true := by simp
set_option maxRecDepth 100000 in
set_option maxHeartbeats 8000000 in
theorem replyApart_law (a0 a1 b0 b1 : Nat) (ha0 : a0 ≤ 65535) (ha1 : a1 ≤ 65535) (hb0 : b0 ≤ 65535) (hb1 : b1 ≤ 65535) (w : World) (hT : T10 w.heap.size w) :
    Calls Tryd.prog 7 #[.agg #[.int .u16 a0, .int .u16 a1], .agg #[.int .u16 b0, .int .u16 b1]] w fun e w' => e = .returned (.bool true) ∧ Below w.heap.size w w' := by
  have hy : 0 ≤ (a0 : Int) % 1000 ∧ (a0 : Int) % 1000 < 1000 := by omega
  have hx : 0 ≤ (a1 : Int) % 1000 ∧ (a1 : Int) % 1000 < 1000 := by omega
  have hv : 0 ≤ (b0 : Int) % 1000 ∧ (b0 : Int) % 1000 < 1000 := by omega
  have hu : 0 ≤ (b1 : Int) % 1000 ∧ (b1 : Int) % 1000 < 1000 := by omega
  have HY := Lib.hid hy
  have HX := Lib.hid hx
  have HV := Lib.hid hv
  have HU := Lib.hid hu
  have HBN : Hid (∀ nq, Below w.heap.size w (((w.alloc (.cells #[.int .u16 a0, .int .u16 a1] 44)).alloc (.cells #[.int .u16 b0, .int .u16 b1] 44)).drewN nq)) := Lib.hid fun nq => below_drewN (belA (belA (Below.refl _ _) _) _) nq
  have HCU : Hid (∀ (y x : Int) (p : Bool) W, Below w.heap.size w W → Calls Tryd.prog 8 #[.int .i64 y, .int .i64 x, .bool p] W fun e w' => e = .returned (.string (bsB (curT y x p))) ∧ Below W.heap.size W w') := Lib.hid fun y x p W hb => cursor_any y x p W (hT.on hb hb.size)
  have HSI : Hid (∀ (y x : Int) W, Below w.heap.size w W → Calls Tryd.prog 10 #[.int .i64 y, .int .i64 x] W fun e w' => e = .returned (.string (bsB (sizeT y x))) ∧ Below W.heap.size W w') := Lib.hid fun y x W hb => size_any y x W (hT.on hb hb.size)
  have HAW : Hid (∀ W, Below w.heap.size w W → Calls Tryd.prog 12 #[] W fun e w' => e = .returned (.bool true) ∧ Below W.heap.size W w') := Lib.hid fun W hb => awake_any W (hT.on hb hb.size)
  clear hy hx hv hu hT
  go_enter Tryd.func7, Tryd.ntmps7
  go_wp2
  go_quiet (fail)
  have HBd := Lib.hid (HBN.out nq)
  clear HBN
  generalize (a0 : Int) % 1000 = y at *
  generalize (a1 : Int) % 1000 = x at *
  generalize (b0 : Int) % 1000 = v at *
  generalize (b1 : Int) % 1000 = u at *
  have e1 := cur_apart y x v u HY.out HX.out HV.out HU.out
  have e2 := size_apart y x v u HY.out HX.out HV.out HU.out
  have e3 := cur_kinds y x v u
  have C1 := Lib.hid (HCU.out y x false)
  have C2 := Lib.hid (HCU.out v u false)
  have C3 := Lib.hid (HCU.out y x true)
  have S1 := Lib.hid (HSI.out y x)
  have S2 := Lib.hid (HSI.out v u)
  clear HCU HSI HY HX HV HU ha0 ha1 hb0 hb1
  generalize bsB (curT y x false) = c1 at *
  generalize bsB (curT v u false) = c2 at *
  generalize bsB (curT y x true) = c3 at *
  generalize bsB (sizeT y x) = s1 at *
  generalize bsB (sizeT v u) = s2 at *
  generalize ((w.alloc (.cells #[.int .u16 a0, .int .u16 a1] 44)).alloc (.cells #[.int .u16 b0, .int .u16 b1] 44)).drewN nq = wd at *
  generalize hyv : (y == v) = t1 at *
  generalize hxu : (x == u) = t2 at *
  cases t1 with
  | true =>
    cases t2 with
    | true =>
      rw [Bool.true_and] at e1 e2
      go_wp2_with (first
        | (go_at_call 8; (with_reducible refine (C1.out _ HBd.out).mono ?_); rintro e x1 ⟨rfl, hb⟩; have HB1 := Lib.hid (bel0 HBd.out hb); clear hb)
        | (go_at_call 8; (with_reducible refine (C2.out _ HB1.out).mono ?_); rintro e x2 ⟨rfl, hb⟩; have HB2 := Lib.hid (bel0 HB1.out hb); clear hb)
        | (go_at_call 10; (with_reducible refine (S1.out _ HB2.out).mono ?_); rintro e x3 ⟨rfl, hb⟩; have HB3 := Lib.hid (bel0 HB2.out hb); clear hb)
        | (go_at_call 10; (with_reducible refine (S2.out _ HB3.out).mono ?_); rintro e x4 ⟨rfl, hb⟩; have HB4 := Lib.hid (bel0 HB3.out hb); clear hb)
        | (go_at_call 8; (with_reducible refine (C3.out _ HB4.out).mono ?_); rintro e x5 ⟨rfl, hb⟩; have HB5 := Lib.hid (bel0 HB4.out hb); clear hb)
        | (go_at_call 8; (with_reducible refine (C2.out _ HB5.out).mono ?_); rintro e x6 ⟨rfl, hb⟩; have HB6 := Lib.hid (bel0 HB5.out hb); clear hb)
        | (go_at_call 12; (with_reducible refine (HAW.out _ HB6.out).mono ?_); rintro e x7 ⟨rfl, hb⟩; have HB7 := Lib.hid (bel0 HB6.out hb); clear hb))
      go_ret
      exact ⟨rfl, HB7.out⟩
    | false =>
      rw [Bool.true_and] at e1 e2
      go_wp2_with (first
        | (go_at_call 8; (with_reducible refine (C1.out _ HBd.out).mono ?_); rintro e x1 ⟨rfl, hb⟩; have HB1 := Lib.hid (bel0 HBd.out hb); clear hb)
        | (go_at_call 8; (with_reducible refine (C2.out _ HB1.out).mono ?_); rintro e x2 ⟨rfl, hb⟩; have HB2 := Lib.hid (bel0 HB1.out hb); clear hb)
        | (go_at_call 10; (with_reducible refine (S1.out _ HB2.out).mono ?_); rintro e x3 ⟨rfl, hb⟩; have HB3 := Lib.hid (bel0 HB2.out hb); clear hb)
        | (go_at_call 10; (with_reducible refine (S2.out _ HB3.out).mono ?_); rintro e x4 ⟨rfl, hb⟩; have HB4 := Lib.hid (bel0 HB3.out hb); clear hb)
        | (go_at_call 8; (with_reducible refine (C3.out _ HB4.out).mono ?_); rintro e x5 ⟨rfl, hb⟩; have HB5 := Lib.hid (bel0 HB4.out hb); clear hb)
        | (go_at_call 8; (with_reducible refine (C2.out _ HB5.out).mono ?_); rintro e x6 ⟨rfl, hb⟩; have HB6 := Lib.hid (bel0 HB5.out hb); clear hb)
        | (go_at_call 12; (with_reducible refine (HAW.out _ HB6.out).mono ?_); rintro e x7 ⟨rfl, hb⟩; have HB7 := Lib.hid (bel0 HB6.out hb); clear hb))
      go_ret
      exact ⟨rfl, HB7.out⟩
  | false =>
    rw [Bool.false_and] at e1 e2
    clear hxu
    go_wp2_with (first
      | (go_at_call 8; (with_reducible refine (C1.out _ HBd.out).mono ?_); rintro e x1 ⟨rfl, hb⟩; have HB1 := Lib.hid (bel0 HBd.out hb); clear hb)
      | (go_at_call 8; (with_reducible refine (C2.out _ HB1.out).mono ?_); rintro e x2 ⟨rfl, hb⟩; have HB2 := Lib.hid (bel0 HB1.out hb); clear hb)
      | (go_at_call 10; (with_reducible refine (S1.out _ HB2.out).mono ?_); rintro e x3 ⟨rfl, hb⟩; have HB3 := Lib.hid (bel0 HB2.out hb); clear hb)
      | (go_at_call 10; (with_reducible refine (S2.out _ HB3.out).mono ?_); rintro e x4 ⟨rfl, hb⟩; have HB4 := Lib.hid (bel0 HB3.out hb); clear hb)
      | (go_at_call 8; (with_reducible refine (C3.out _ HB4.out).mono ?_); rintro e x5 ⟨rfl, hb⟩; have HB5 := Lib.hid (bel0 HB4.out hb); clear hb)
      | (go_at_call 8; (with_reducible refine (C2.out _ HB5.out).mono ?_); rintro e x6 ⟨rfl, hb⟩; have HB6 := Lib.hid (bel0 HB5.out hb); clear hb)
      | (go_at_call 12; (with_reducible refine (HAW.out _ HB6.out).mono ?_); rintro e x7 ⟨rfl, hb⟩; have HB7 := Lib.hid (bel0 HB6.out hb); clear hb))
    go_ret
    exact ⟨rfl, HB7.out⟩
end Go.Proofs.YtlolbfbkoimjkaaDoor
