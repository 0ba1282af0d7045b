/- The walks of WriteByte, escaped, Unescape, saying. -/
import Derived.Test.YtkkhlmilcdlfoaaDoorXd
import Derived.Test.YtkkhlmilcdlfoaaDoorXg
import Derived.Test.YtkkhlmilcdlfoaaDoorKi
namespace Go.Proofs.YtkkhlmilcdlfoaaDoor
open Go.RowKit Go.Shelf

set_option maxRecDepth 100000 in
set_option maxHeartbeats 4000000 in
theorem writeByte_any (B b : Nat) (bs : List Value) (c : UInt8) (w : World) (h : SB B b bs w) (hlen : bs.length ≤ 140737488000000) (hBw : B ≤ w.heap.size) :
    Calls Tryd.prog 33 #[.pointer (some ⟨b, 0, none⟩), .int .u8 c.toNat] w fun e w' => e = .returned .nilIface ∧ SW B b (bs ++ [.int .u8 c.toNat]) w' ∧ Below B w w' := by
  obtain ⟨i0, hi, hz0, hz1, hz2⟩ := sbByte
  have HCK := Lib.hid (check_any B b bs w h)
  have HBW := Lib.hid hBw
  have HP : Hid (∀ (W : World) (v : Value), W.heap[b]? = some (.cells #[.pointer (some ⟨b, 0, none⟩), v] 48 (0, 0)) → W.cell? ⟨b, 0, none⟩ = some (.pointer (some ⟨b, 0, none⟩)) ∧ W.cell? ⟨b, 1, none⟩ = some v ∧ W.frozen? ⟨b, 1, none⟩ = false) := Lib.hid fun W v hb => ⟨cell_of_row _ _ 0 _ _ _ hb, cell_of_row _ _ 1 _ _ _ hb, Lib.frozen_of_heap hb 1⟩
  clear h hBw
  generalize c.toNat = cn at *
  go_enter Tryd.func33, Tryd.ntmps33
  go_wp2_with (first
    | (go_at_call 50; (with_reducible refine (HCK.out).mono ?_); rintro e w1 ⟨rfl, ⟨hB, v, hb, hown, hne⟩, hb1⟩; have HR := Lib.hid hown; have HX := Lib.hid hb; have HN := Lib.hid hne; have HL := Lib.hid hB; have HB1 := Lib.hid hb1; have HS1 := Lib.hid (Nat.le_trans HBW.out hb1.size); obtain ⟨c0, c1, c2⟩ := HP.out _ _ hb; obtain ⟨A1, n1, k1, hv1⟩ := slice_of_row hown; subst hv1; clear hb hown hne hb1 hB)
    | (at_builtin; go_must (refine wpList_append_own _ rfl _ _ 46 rfl B 5 i0 (.int .u8 0) 1 1 Tryd.underlying46 hi hz0 hz1 hz2 rfl (by decide) (.slice A1 n1 k1) bs.length bs rfl (HR.out.alloc _) ⟨w1.heap.size, 0, none⟩ 1 1 [.int .u8 cn] rfl rfl (news1 w1 _ _) (by simp [Value.oneCell']) (by unfold maxLen; omega) (by omega) (by have := HS1.out; simp; omega) ?_)))
  intro v2 w2 hown2 hg2 _
  have hbA : Below w1.heap.size w1 (w1.alloc (.cells #[.int .u8 cn] 5)) := belA (Below.refl _ _) _
  have hXA := (hbA.block b (Array.getElem?_eq_some_iff.1 HX.out).1).trans HX.out
  have hx2 := SW.stays hXA HN.out hg2
  obtain ⟨d0, d1, d2⟩ := HP.out _ _ hx2
  obtain ⟨A2, m2, k2, hv2⟩ := slice_of_row hown2
  subst hv2
  have HE : Hid (SW B b (bs ++ [.int .u8 cn]) (w2.setCell ⟨b, 1, none⟩ (.slice A2 m2 k2))) := Lib.hid (Lib.BuilderAt.put HL.out hx2 (by rw [List.length_append]; exact hown2) (by decide))
  have HF : Hid (Below B w (w2.setCell ⟨b, 1, none⟩ (.slice A2 m2 k2))) := Lib.hid (((HB1.out.alloc HS1.out (.cells #[.int .u8 cn] 5)).grown hg2 (by have := HS1.out; simp; omega) fun k hk => (HR.out.lt k hk).1).setCell (p := ⟨b, 1, none⟩) HL.out _)
  clear hown2 hg2 hx2 c0 c1 c2
  go_wp2
  go_ret
  exact ⟨rfl, HE.out, HF.out⟩
/-- What the beginning of an escaped text means, and how long it is. -/
def esc1 (c : UInt8) (r : List UInt8) : UInt8 × Nat := match c, r with
  | 92, 92 :: _ => (92, 2)
  | 92, 120 :: a :: b :: _ => match hex2 a b with
    | some x => (x, 4)
    | none => (92, 1)
  | _, _ => (c, 1)
theorem esc1_ne {c : UInt8} (h : c ≠ 92) (r : List UInt8) : esc1 c r = (c, 1) := by
  unfold esc1
  split
  · exact absurd rfl h
  · exact absurd rfl h
  · rfl
theorem esc1_bb (r : List UInt8) : esc1 92 (92 :: r) = (92, 2) := rfl
theorem esc1_x (a b : UInt8) (r : List UInt8) : esc1 92 (120 :: a :: b :: r) = match hex2 a b with | some x => (x, 4) | none => (92, 1) := rfl
theorem esc1_other {r : List UInt8} (h1 : r.head? ≠ some 92) (h2 : ¬ (r.head? = some 120 ∧ 3 ≤ r.length)) : esc1 92 r = (92, 1) := by
  match r, h1, h2 with
  | [], _, _ => rfl
  | d :: r', h1, h2 =>
    have hd : d ≠ 92 := fun e => h1 (by rw [e]; rfl)
    by_cases hx : d = 120
    · subst hx
      match r', h2 with
      | [], _ => rfl
      | [_], _ => rfl
      | _ :: _ :: _, h2 => exact absurd ⟨rfl, by simp⟩ h2
    · unfold esc1
      split
      · rename_i e; injection e with e1 _; exact absurd e1 hd
      · rename_i e; injection e with e1 _; exact absurd e1 hx
      · rfl
theorem esc1_len (c : UInt8) (r : List UInt8) : 1 ≤ (esc1 c r).2 ∧ (esc1 c r).2 ≤ (c :: r).length := by
  unfold esc1
  split
  · simp
  · split
    · simp
    · simp
  · simp
def unescL : List UInt8 → List UInt8
  | [] => []
  | c :: r => (esc1 c r).1 :: unescL ((c :: r).drop (esc1 c r).2)
termination_by s => s.length
decreasing_by
  have := esc1_len c r
  simp only [List.length_drop, List.length_cons] at *
  omega
theorem unescL_nil : unescL [] = [] := by rw [unescL]
theorem unescL_cons (c : UInt8) (r : List UInt8) : unescL (c :: r) = (esc1 c r).1 :: unescL ((c :: r).drop (esc1 c r).2) := by rw [unescL]
theorem unescL_len : ∀ (n : Nat) (s : List UInt8), s.length ≤ n → (unescL s).length ≤ s.length
  | 0, s, h => by
    obtain rfl : s = [] := List.eq_nil_of_length_eq_zero (by omega)
    rw [unescL_nil]; exact Nat.le_refl _
  | n + 1, [], _ => by rw [unescL_nil]; exact Nat.le_refl _
  | n + 1, c :: r, h => by
    rw [unescL_cons]
    have h1 := esc1_len c r
    simp only [List.length_cons] at h h1
    have := unescL_len n ((c :: r).drop (esc1 c r).2) (by rw [List.length_drop, List.length_cons]; omega)
    rw [List.length_drop, List.length_cons] at this
    simp only [List.length_cons]; omega
end Go.Proofs.YtkkhlmilcdlfoaaDoor
