/- Flow's example; Great. -/
import Derived.Test.YtfjgfmeanehpmaaHj
import Derived.Test.YtfjgfmeanehpmaaGb
namespace Go.Proofs.Ytfjgfmeanehpmaa
open Go.RowKit

def cA (r h : Int) : CC := ⟨r, ⟨#[]⟩, h, 0, 0, 0, 0, 0⟩
def lA : List CC := [cA 97 0, cA 98 0, cA 12354 1, cA 12354 2, cA 99 0]
def rowsA : List Rw := [⟨[cA 97 0, cA 98 0, padF], false⟩, ⟨[cA 12354 1, cA 12354 2, cA 99 0], true⟩]
theorem pairA : pairB (cA 12354 1) (cA 12354 2) = true := by
  show (true && eqC (cA 12354 2) (cA 12354 2)) = true
  rw [eqC_self]
  rfl
theorem mendA : mendL lA = lA := by
  show mendL (cA 97 0 :: cA 98 0 :: [cA 12354 1, cA 12354 2, cA 99 0]) = _
  rw [mendL_duo, if_neg (by decide), if_pos (show (cA 97 0).h = 0 from rfl), mendL_duo, if_neg (by decide), if_pos (show (cA 98 0).h = 0 from rfl), mendL_duo, if_pos pairA]
  rfl
theorem splitA : splitL 3 lA = rowsA := by
  show lay 3 false [] (mendL lA) = rowsA
  rw [mendA]
  rfl
theorem flatA : flat rowsA = lA := rfl
theorem flowA : flowL rowsA = lA := by
  unfold flowL
  rw [flatA, mendA]
  rfl
theorem RC.of_lit (w : World) : RC (w.alloc (.cells (cellsC lA).toArray 54)) (w.alloc (.cells (cellsC lA).toArray 54)).heap.size (some ⟨w.heap.size, 0, none⟩) lA :=
  RC.of_own (World.ownsRow_lit (e := 54) (size := 8) w (cellsC lA).toArray 5 (Nat.le_refl _) (by unfold maxLen; omega) rfl) rfl
set_option maxRecDepth 100000 in
set_option maxHeartbeats 4000000 in
theorem awake_any (w : World) : Calls Try.prog 11 #[] w fun e w' => e = .returned (.bool true) ∧ Below w.heap.size w w' := by
  have HR0 : Hid (RC (w.alloc (.cells #[.int .i32 97, .string ⟨#[]⟩, .int .i64 0, .int .i64 0, .int .i64 0, .int .i64 0, .int .i64 0, .int .i64 0, .int .i32 98, .string ⟨#[]⟩, .int .i64 0, .int .i64 0, .int .i64 0, .int .i64 0, .int .i64 0, .int .i64 0, .int .i32 12354, .string ⟨#[]⟩, .int .i64 1, .int .i64 0, .int .i64 0, .int .i64 0, .int .i64 0, .int .i64 0, .int .i32 12354, .string ⟨#[]⟩, .int .i64 2, .int .i64 0, .int .i64 0, .int .i64 0, .int .i64 0, .int .i64 0, .int .i32 99, .string ⟨#[]⟩, .int .i64 0, .int .i64 0, .int .i64 0, .int .i64 0, .int .i64 0, .int .i64 0] 54)) (w.alloc (.cells #[.int .i32 97, .string ⟨#[]⟩, .int .i64 0, .int .i64 0, .int .i64 0, .int .i64 0, .int .i64 0, .int .i64 0, .int .i32 98, .string ⟨#[]⟩, .int .i64 0, .int .i64 0, .int .i64 0, .int .i64 0, .int .i64 0, .int .i64 0, .int .i32 12354, .string ⟨#[]⟩, .int .i64 1, .int .i64 0, .int .i64 0, .int .i64 0, .int .i64 0, .int .i64 0, .int .i32 12354, .string ⟨#[]⟩, .int .i64 2, .int .i64 0, .int .i64 0, .int .i64 0, .int .i64 0, .int .i64 0, .int .i32 99, .string ⟨#[]⟩, .int .i64 0, .int .i64 0, .int .i64 0, .int .i64 0, .int .i64 0, .int .i64 0] 54)).heap.size (some ⟨w.heap.size, 0, none⟩) lA) := Lib.hid (RC.of_lit w)
  have HB0 := Lib.hid (belA (Below.refl w.heap.size w) (.cells #[.int .i32 97, .string ⟨#[]⟩, .int .i64 0, .int .i64 0, .int .i64 0, .int .i64 0, .int .i64 0, .int .i64 0, .int .i32 98, .string ⟨#[]⟩, .int .i64 0, .int .i64 0, .int .i64 0, .int .i64 0, .int .i64 0, .int .i64 0, .int .i32 12354, .string ⟨#[]⟩, .int .i64 1, .int .i64 0, .int .i64 0, .int .i64 0, .int .i64 0, .int .i64 0, .int .i32 12354, .string ⟨#[]⟩, .int .i64 2, .int .i64 0, .int .i64 0, .int .i64 0, .int .i64 0, .int .i64 0, .int .i32 99, .string ⟨#[]⟩, .int .i64 0, .int .i64 0, .int .i64 0, .int .i64 0, .int .i64 0, .int .i64 0] 54))
  have H1 : Hid (∀ W, RC W W.heap.size (some ⟨w.heap.size, 0, none⟩) lA → Calls Try.prog 17 #[.slice (some ⟨w.heap.size, 0, none⟩) 5 5, .int .i64 3] W fun e w' => ∃ b off c c0 b0 off0 A1 c1, e = .returned (.slice (some ⟨b, off, none⟩) 2 c) ∧ w'.cell? ⟨b, off, none⟩ = some (.slice (some ⟨b0, off0, none⟩) 3 c0) ∧ w'.cell? ⟨b0, off0 + 2 * 8 + 2, none⟩ = some (.int .i64 3) ∧ w'.cell? ⟨b, off + 2 + 1, none⟩ = some (.bool true) ∧ w'.cell? ⟨b, off + 2, none⟩ = some (.slice A1 3 c1) ∧ RR w' (some ⟨b, off, none⟩) rowsA ∧ Below W.heap.size W w') := Lib.hid fun W hR => by
    have h := split_any (some ⟨w.heap.size, 0, none⟩) lA 5 5 3 rfl (by decide) (by decide) (by decide) W hR
    rw [splitA] at h
    refine h.mono fun e w' ⟨v, he, ho, hb⟩ => ?_
    obtain ⟨A, c, hv, _⟩ := ho.form
    subst hv
    obtain ⟨_, hr⟩ := ho.read
    obtain ⟨b, off, A0, c0, rfl, _, hG⟩ := hr.at 0 (by decide)
    obtain ⟨_, h1, h2, h3⟩ := hG w' (Below.refl _ _)
    obtain ⟨b', off', A1, c1, e1, _, hG'⟩ := hr.at 1 (by decide)
    injection e1 with e1
    injection e1 with e1 e2 _
    subst e1; subst e2
    obtain ⟨_, k1, k2, _⟩ := hG' w' (Below.refl _ _)
    obtain ⟨b0, off0, rfl, _, hc⟩ := h3 (by decide)
    have h8 := (hc 2 (by decide)).2.2.1
    exact ⟨b, off, c, c0, b0, off0, A1, c1, he, h1, h8, k2, k1, hr, hb⟩
  have H2 : Hid (∀ W b off c, RR W (some ⟨b, off, none⟩) rowsA → Calls Try.prog 15 #[.slice (some ⟨b, off, none⟩) 2 c] W fun e w' => ∃ A c', e = .returned (.slice A 5 c') ∧ RC w' w'.heap.size A lA ∧ Below W.heap.size W w') := Lib.hid fun W b off c hR => by
    have h := flow_any (some ⟨b, off, none⟩) rowsA 2 c rfl (by decide) (fun i hi => by
      match i, hi with
      | 0, _ => decide
      | 1, _ => decide) (by rw [flatA]; decide) W hR
    rw [flowA] at h
    refine h.mono fun e w' ⟨v, he, ho, hb⟩ => ?_
    obtain ⟨A, c', hv, _, hr⟩ := ho.form'
    subst hv
    exact ⟨A, c', he, hr, hb⟩
  have H3 : Hid (∀ W A A' c c', RC W W.heap.size A lA → RC W W.heap.size A' lA → Calls Try.prog 14 #[.slice A 5 c, .slice A' 5 c'] W fun e w' => e = .returned (.bool true) ∧ Below W.heap.size W w') := Lib.hid fun W A A' c c' h h' => by
    have h1 := same7C_any A A' lA lA 5 5 c c' rfl rfl (by decide) W h h'
    rwa [sameC_self] at h1
  go_enter Try.func11, Try.ntmps11
  go_wp2_with (first
    | (go_at_call 17; (with_reducible refine (H1.out _ HR0.out).mono ?_); rintro e w1 ⟨b, off, c, c0, b0, off0, A1, c1, rfl, h1, h2, h3, h4, hr, hb⟩; have HB1 := Lib.hid (bel0 HB0.out hb); have HR1 := Lib.hid hr; have HL1 := Lib.hid (HR0.out.past hb); clear hb hr)
    | (go_at_call 15; (with_reducible refine (H2.out _ _ _ _ HR1.out).mono ?_); rintro e w2 ⟨A2, c2, rfl, hr, hb⟩; have HB2 := Lib.hid (bel0 HB1.out hb); have HR2 := Lib.hid hr; have HL2 := Lib.hid (HL1.out.past hb); clear hb hr)
    | (go_at_call 14; (with_reducible refine (H3.out _ _ _ _ _ HR2.out HL2.out).mono ?_); rintro e w3 ⟨rfl, hb⟩; have HB3 := Lib.hid (bel0 HB2.out hb); clear hb))
  go_ret
  exact ⟨rfl, HB3.out⟩
/-- How many rows and cells there are, of the first rows. -/
def greatTo (L : List Rw) (i : Nat) : Nat := L.length + ((L.take i).map fun r => r.c.length).sum
theorem greatTo_zero (L : List Rw) : greatTo L 0 = L.length := rfl
theorem greatTo_succ (L : List Rw) (i : Nat) (h : i < L.length) : greatTo L (i + 1) = greatTo L i + (Ar L i).c.length := by
  unfold greatTo Ar
  rw [List.take_succ_eq_append_getElem h, List.getElem?_eq_getElem h, List.map_append, List.sum_append]
  simp only [List.map_cons, List.map_nil, List.sum_cons, List.sum_nil, Nat.add_zero, Option.getD_some]
  omega
def Small (L : List Rw) : Prop := L.length + (L.map fun r => r.c.length).sum ≤ 600
theorem greatTo_end (L : List Rw) (h : greatTo L L.length ≤ 600) : Small L := by
  unfold greatTo at h
  rwa [List.take_length] at h
theorem greatTo_mono (L : List Rw) (i : Nat) : greatTo L i ≤ L.length + (L.map fun r => r.c.length).sum := by
  unfold greatTo
  conv => rhs; rw [← List.take_append_drop i L, List.map_append, List.sum_append]
  simp
theorem greatTo_not (L : List Rw) (i : Nat) (h6 : 600 < greatTo L i) : ¬ Small L := fun hs => by
  have := greatTo_mono L i
  unfold Small at hs
  omega
instance (L : List Rw) : Decidable (Small L) := by unfold Small; infer_instance
def smallB (L : List Rw) : Bool := decide (Small L)
set_option maxRecDepth 100000 in
set_option maxHeartbeats 4000000 in
theorem great_any (A : Option Addr) (L : List Rw) (n c : Nat) (hn : n = L.length) (hl : n ≤ 140737488355328) (hr : ∀ i, i < n → (Ar L i).c.length ≤ 140737488355328) (w : World) (h : RR w A L) :
    Calls Try.prog 10 #[.slice A n c] w fun e w' => e = .returned (.bool (!smallB L)) ∧ Below w.heap.size w w' := by
  have HR := Lib.hid h
  have HN := Lib.hid hn
  have HL := Lib.hid hr
  clear h hn hr
  go_enter Try.func10, Try.ntmps10
  go_wp2
  go_loopw [3, 4] (fun s q wr => ∃ i t : Nat, s = .int .i64 t ∧ q = .int .i64 i ∧ i ≤ n ∧ t ≤ 281474976710656 ∧ Hid (t = greatTo L i) ∧ Hid (Below w.heap.size w wr)) (fun _ q _ => n - (intOf q).toNat)
  case atStart => exact ⟨0, n, rfl, rfl, Nat.zero_le _, by omega, Lib.hid (by rw [greatTo_zero]; exact HN.out), Lib.hid (Below.refl _ _)⟩
  case round =>
    obtain ⟨i, t, rfl, rfl, hi, ht, HT, HB⟩ := hrel
    by_cases hlt : i < n
    · have hlti : (i : Int) < n := by omega
      by_cases h6 : t ≤ 600
      · have h6d : decide ((t : Int) ≤ 600) = true := decide_eq_true (by omega)
        obtain ⟨b, off, Ai, ci, rfl, _, hG⟩ := HR.out.at i (by have := HN.out; omega)
        obtain ⟨_, a0, a1, _⟩ := hG _ HB.out
        have hkl := HL.out i hlt
        have HS := Lib.hid (greatTo_succ L i (by have := HN.out; omega))
        clear hG
        generalize (Ar L i).c.length = nk at *
        have HT2 : Hid (t + nk = greatTo L (i + 1)) := Lib.hid (by rw [HS.out, HT.out])
        clear HT HS
        go_wp2
        go_roundw
        case rel => exact ⟨i + 1, t + nk, by go_num, by go_num, hlt, by omega, HT2, HB⟩
        case measure => simp [intOf]; omega
      · have h6d : decide ((t : Int) ≤ 600) = false := decide_eq_false (by omega)
        have h6e : decide (600 < (t : Int)) = true := decide_eq_true (by omega)
        have HE : Hid (smallB L = false) := Lib.hid (decide_eq_false (greatTo_not L i (by rw [← HT.out]; omega)))
        clear HT
        go_wp2
        go_ret
        exact ⟨(by rw [HE.out]; rfl), HB.out⟩
    · obtain rfl : i = n := by omega
      have HE : Hid (t ≤ 600 → smallB L = true) := Lib.hid fun h => decide_eq_true (greatTo_end L (by rw [← HN.out, ← HT.out]; exact h))
      have HE2 : Hid (600 < t → smallB L = false) := Lib.hid fun h => decide_eq_false (greatTo_not L i (by rw [← HT.out]; exact h))
      clear HT
      by_cases h6 : t ≤ 600
      · have h6e : decide (600 < (t : Int)) = false := decide_eq_false (by omega)
        go_wp2
        go_ret
        exact ⟨(by rw [HE.out h6]; rfl), HB.out⟩
      · have h6e : decide (600 < (t : Int)) = true := decide_eq_true (by omega)
        go_wp2
        go_ret
        exact ⟨(by rw [HE2.out (by omega)]; rfl), HB.out⟩
end Go.Proofs.Ytfjgfmeanehpmaa
