/- Rows in memory; the walks of isWidth, isPad, lineEnd. -/
import Derived.Test.YtfjgfmeanehpmaaHb
import Derived.Test.YtfjgfmeanehpmaaGi
import Derived.Deep.QuietTactic
import Derived.BigQuiet
namespace Go.Proofs.Ytfjgfmeanehpmaa
open Go.RowKit

/-- A slice of rows reads as a list. -/
def RR (w : World) (A : Option Addr) (L : List Rw) : Prop :=
  L ≠ [] → ∃ b off, A = some ⟨b, off, none⟩ ∧ b < w.heap.size ∧ ∀ i, i < L.length → ∃ Ai ci, w.cell? ⟨b, off + i * 2, none⟩ = some (.slice Ai (Ar L i).c.length ci) ∧ w.cell? ⟨b, off + i * 2 + 1, none⟩ = some (.bool (Ar L i).k) ∧ RC w w.heap.size Ai (Ar L i).c ∧ (Ar L i).c.length ≤ ci
theorem RR.past {w w' : World} {A : Option Addr} {L : List Rw} (h : RR w A L) (hb : Below w.heap.size w w') : RR w' A L := fun hne => by
  obtain ⟨b, off, e, hl, hc⟩ := h hne
  refine ⟨b, off, e, Nat.lt_of_lt_of_le hl hb.size, fun i hi => ?_⟩
  obtain ⟨Ai, ci, h1, h2, h3, h4⟩ := hc i hi
  exact ⟨Ai, ci, (hb.cell (p := ⟨b, off + i * 2, none⟩) hl).trans h1, (hb.cell (p := ⟨b, off + i * 2 + 1, none⟩) hl).trans h2, h3.past hb, h4⟩
theorem RR.nil (w : World) (A : Option Addr) : RR w A [] := fun h => absurd rfl h
theorem RR.at {w : World} {A : Option Addr} {L : List Rw} (h : RR w A L) (i : Nat) (hi : i < L.length) :
    ∃ b off Ai ci, A = some ⟨b, off, none⟩ ∧ (Ar L i).c.length ≤ ci ∧ ∀ W, Below w.heap.size w W → b < W.heap.size ∧ W.cell? ⟨b, off + i * 2, none⟩ = some (.slice Ai (Ar L i).c.length ci) ∧ W.cell? ⟨b, off + i * 2 + 1, none⟩ = some (.bool (Ar L i).k) ∧ RC W W.heap.size Ai (Ar L i).c := by
  obtain ⟨b, off, e, hl, hc⟩ := h (fun e => by rw [e] at hi; simp at hi)
  obtain ⟨Ai, ci, h1, h2, h3, h4⟩ := hc i hi
  exact ⟨b, off, Ai, ci, e, h4, fun W hb => ⟨Nat.lt_of_lt_of_le hl hb.size, (hb.cell (p := ⟨b, off + i * 2, none⟩) hl).trans h1, (hb.cell (p := ⟨b, off + i * 2 + 1, none⟩) hl).trans h2, h3.past hb⟩⟩
theorem RR.some {w : World} {A : Option Addr} {L : List Rw} (h : RR w A L) (hne : L ≠ []) : ∃ b off, A = Option.some ⟨b, off, none⟩ := by
  obtain ⟨b, off, e, _⟩ := h hne
  exact ⟨b, off, e⟩
theorem Ar_drop (L : List Rw) (k i : Nat) : Ar (L.drop k) i = Ar L (k + i) := by unfold Ar; rw [List.getElem?_drop]
theorem Ar_take (L : List Rw) (m i : Nat) (h : i < m) : Ar (L.take m) i = Ar L i := by unfold Ar; rw [List.getElem?_take, if_pos h]
theorem RR.drop {w : World} {b off : Nat} {L : List Rw} (h : RR w (Option.some ⟨b, off, none⟩) L) (k : Nat) : RR w (Option.some ⟨b, off + k * 2, none⟩) (L.drop k) := fun hne => by
  have hk : k < L.length := by
    rcases Nat.lt_or_ge k L.length with h1 | h1
    · exact h1
    · exact absurd (List.drop_eq_nil_of_le h1) hne
  obtain ⟨b', off', e, hl, hc⟩ := h (fun e => by rw [e] at hk; simp at hk)
  injection e with e
  injection e with e1 e2 _
  subst e1; subst e2
  refine ⟨b, _, rfl, hl, fun i hi => ?_⟩
  obtain ⟨Ai, ci, h1, h2, h3, h4⟩ := hc (k + i) (by simp at hi; omega)
  rw [Ar_drop]
  exact ⟨Ai, ci, by rw [← h1]; congr 2; omega, by rw [← h2]; congr 2; omega, h3, h4⟩
theorem RR.take {w : World} {A : Option Addr} {L : List Rw} (h : RR w A L) (m : Nat) : RR w A (L.take m) := fun hne => by
  have hL : L ≠ [] := fun e => by rw [e] at hne; simp at hne
  obtain ⟨b, off, e, hl, hc⟩ := h hL
  refine ⟨b, off, e, hl, fun i hi => ?_⟩
  have hi : i < m ∧ i < L.length := by simp at hi; omega
  rw [Ar_take L m i hi.1]
  exact hc i hi.2

set_option maxHeartbeats 2000000 in
theorem isWidth_any (z : Int) (w : World) : Calls Try.prog 34 #[.int .i64 z] w fun e w' => e = .returned (.bool (decide (2 ≤ z ∧ z ≤ 1000))) ∧ w = w' := by
  by_cases h1 : 2 ≤ z
  · by_cases h2 : z ≤ 1000
    · rw [decide_eq_true ⟨h1, h2⟩]
      have d1 : decide (2 ≤ z) = true := decide_eq_true h1
      have d2 : decide (z ≤ 1000) = true := decide_eq_true h2
      go_enter Try.func34, Try.ntmps34
      go_wp2
      go_ret
      exact ⟨rfl, rfl⟩
    · rw [decide_eq_false (fun h => h2 h.2)]
      have d1 : decide (2 ≤ z) = true := decide_eq_true h1
      have d2 : decide (z ≤ 1000) = false := decide_eq_false h2
      go_enter Try.func34, Try.ntmps34
      go_wp2
      go_ret
      exact ⟨rfl, rfl⟩
  · rw [decide_eq_false (fun h => h1 h.1)]
    have d1 : decide (2 ≤ z) = false := decide_eq_false h1
    go_enter Try.func34, Try.ntmps34
    go_wp2
    go_ret
    exact ⟨rfl, rfl⟩
set_option maxHeartbeats 2000000 in
theorem isPad_any (x : CC) (q : Bool) (hq : notPad x = !q) (w : World) : Calls Try.prog 31 #[.agg #[.int .i32 x.r, .string x.m, .int .i64 x.h, .int .i64 x.fk, .int .i64 x.fn, .int .i64 x.bk, .int .i64 x.bn, .int .i64 x.fl]] w fun e w' => e = .returned (.bool q) ∧ Below w.heap.size w w' := by
  have hq : (x.h == 3) = q := by
    unfold notPad at hq
    cases h : (x.h == 3) <;> rw [h] at hq <;> cases q <;> simp at hq <;> rfl
  go_enter Try.func31, Try.ntmps31
  go_wp2
  go_ret
  exact ⟨rfl, belA (Below.refl _ _) _⟩
set_option maxHeartbeats 2000000 in
theorem goesOn_any (Ai : Option Addr) (n c : Nat) (k : Bool) (w : World) : Calls Try.prog 45 #[.agg #[.slice Ai n c, .bool k]] w fun e w' => e = .returned (.bool (!k)) ∧ Below w.heap.size w w' := by
  cases k
  all_goals
    go_enter Try.func45, Try.ntmps45
    go_wp2
    go_ret
    exact ⟨rfl, belA (Below.refl _ _) _⟩
/-- How many rows at the beginning go on. -/
def runK (L : List Rw) : Nat := (L.takeWhile Rw.k).length
theorem runK_at (L : List Rw) (k : Nat) (hk : k < L.length) (h : ∀ j, j < k → (Ar L j).k = true) (h1 : (Ar L k).k = false) : runK L = k := by
  induction L generalizing k with
  | nil => simp at hk
  | cons r t ih =>
    unfold runK
    match k, hk, h, h1 with
    | 0, _, _, h1 =>
      have h1 : r.k = false := h1
      simp [h1]
    | k + 1, hk, h, h1 =>
      have h0 : r.k = true := h 0 (by omega)
      have := ih k (by simpa using hk) (fun j hj => h (j + 1) (by omega)) h1
      unfold runK at this
      simp [h0, this]
theorem runK_all (L : List Rw) (h : ∀ j, j < L.length → (Ar L j).k = true) : runK L = L.length := by
  induction L with
  | nil => rfl
  | cons r t ih =>
    have h0 : r.k = true := h 0 (by simp)
    have := ih (fun j hj => h (j + 1) (by simpa using hj))
    unfold runK at this ⊢
    simp [h0, this]
theorem runK_le (L : List Rw) : runK L ≤ L.length := (List.takeWhile_sublist Rw.k).length_le
set_option maxRecDepth 100000 in
set_option maxHeartbeats 4000000 in
theorem indexRow_any (A : Option Addr) (L : List Rw) (n c : Nat) (hn : n = L.length) (hl : n ≤ 1000000000) (w : World) (h : RR w A L) :
    Calls Try.prog 44 #[.slice A n c, .func (.func 45) #[] #[]] w fun e w' => e = .returned (.int .i64 (if runK L < n then runK L else -1)) ∧ Below w.heap.size w w' := by
  have HR := Lib.hid h
  have HN := Lib.hid hn
  obtain ⟨z, hz⟩ : ∃ z : Int, (if runK L < n then (runK L : Int) else -1) = z := ⟨_, rfl⟩
  rw [hz]
  have HZ := Lib.hid hz
  clear h hn hz
  go_enter Try.func44, Try.ntmps44
  go_wp2
  go_loopw [8] (fun q wr => ∃ k : Nat, q = .int .i64 k ∧ k ≤ n ∧ Hid (∀ j, j < k → (Ar L j).k = true) ∧ Hid (Below w.heap.size w wr)) (fun q _ => n - (intOf q).toNat)
  case atStart => exact ⟨0, rfl, Nat.zero_le _, Lib.hid (fun j hj => by omega), Lib.hid (Below.refl _ _)⟩
  case round =>
    obtain ⟨k, rfl, hk, HK, HB⟩ := hrel
    by_cases hlt : k < n
    · have hki : (k : Int) < n := by omega
      obtain ⟨b, off, Ai, ci, rfl, _, hG⟩ := HR.out.at k (by have := HN.out; omega)
      obtain ⟨_, a0, a1, _⟩ := hG _ HB.out
      clear hG
      generalize (Ar L k).c.length = nk at *
      cases hq : (Ar L k).k with
      | false =>
        rw [hq] at a1
        have HT := Lib.hid (goesOn_any Ai nk ci false wr)
        have HE : Hid ((k : Int) = z) := Lib.hid (by
          rw [← HZ.out, runK_at L k (by have := HN.out; omega) HK.out hq, if_pos hlt])
        clear hq HK HZ
        go_wp2_with (go_at_call 45; (with_reducible refine (HT.out).mono ?_); rintro e w1 ⟨rfl, hb⟩; have HB1 := Lib.hid (bel0 HB.out hb); clear hb)
        go_ret
        exact ⟨(by rw [HE.out]; try rfl), HB1.out⟩
      | true =>
        rw [hq] at a1
        have HT := Lib.hid (goesOn_any Ai nk ci true wr)
        have HKN : Hid (∀ j, j < k + 1 → (Ar L j).k = true) := Lib.hid fun j hj => by
          rcases (by omega : j < k ∨ j = k) with h | rfl
          · exact HK.out j h
          · exact hq
        clear hq HK
        go_wp2_with (go_at_call 45; (with_reducible refine (HT.out).mono ?_); rintro e w1 ⟨rfl, hb⟩; have HB1 := Lib.hid (bel0 HB.out hb); clear hb)
        go_roundw
        case rel => exact ⟨k + 1, by go_num, hlt, HKN, HB1⟩
        case measure => simp [intOf]; omega
    · obtain rfl : k = n := by omega
      have HE : Hid ((-1 : Int) = z) := Lib.hid (by
        have := runK_all L (fun j hj => HK.out j (by have := HN.out; omega))
        rw [← HZ.out, if_neg (by have := HN.out; omega)])
      clear HK HZ
      go_wp2
      go_ret
      exact ⟨(by rw [HE.out]; try rfl), HB.out⟩
set_option maxRecDepth 100000 in
set_option maxHeartbeats 4000000 in
theorem lineEnd_any (A : Option Addr) (L : List Rw) (n c a : Nat) (hn : n = L.length) (hl : n ≤ 1000000000) (hc : n ≤ c) (ha : a < n) (w : World) (h : RR w A L) :
    Calls Try.prog 30 #[.slice A n c, .int .i64 a] w fun e w' => e = .returned (.int .i64 (a + 1 + runK (L.drop (a + 1)) : Nat)) ∧ Below w.heap.size w w' := by
  obtain ⟨b, off, rfl⟩ := h.some (fun e => by rw [e] at hn; simp at hn; omega)
  have hle := runK_le (L.drop (a + 1))
  have hdl : (L.drop (a + 1)).length = n - (a + 1) := by rw [List.length_drop, hn]
  have HI : Hid (∀ A' c', (a + 1 < n → A' = some ⟨b, off + (a + 1) * 2, none⟩) → Calls Try.prog 44 #[.slice A' (n - (a + 1)) c', .func (.func 45) #[] #[]] w fun e w' => e = .returned (.int .i64 (if runK (L.drop (a + 1)) < n - (a + 1) then runK (L.drop (a + 1)) else -1)) ∧ Below w.heap.size w w') := Lib.hid fun A' c' hA => by
    refine indexRow_any A' (L.drop (a + 1)) (n - (a + 1)) c' hdl.symm (by omega) w ?_
    by_cases hlt : a + 1 < n
    · rw [hA hlt]
      exact h.drop (a + 1)
    · rw [List.drop_eq_nil_of_le (by omega)]
      exact RR.nil _ _
  rw [hdl] at hle
  have HN := Lib.hid hn
  clear h hn hdl
  generalize runK (L.drop (a + 1)) = r at *
  have han : (a : Int) + 1 ≤ n := by omega
  have hac : (a : Int) + 1 ≤ c := by omega
  have hw : IntKind.i64.wrap ((a : Int) + 1) = (a : Int) + 1 := by rw [IntKind.wrap_i64]; omega
  by_cases hcc : c = a + 1
  · subst hcc
    obtain rfl : n = a + 1 := by omega
    obtain rfl : r = 0 := by omega
    have HI1 := Lib.hid (HI.out (some ⟨b, off, none⟩) 0 (fun h => by omega))
    rw [Nat.sub_self, if_neg (by omega)] at HI1
    clear HI
    go_enter Try.func30, Try.ntmps30
    go_wp2_with (go_at_call 44; (with_reducible refine (HI1.out).mono ?_); rintro e w1 ⟨rfl, hb⟩; have HB1 := Lib.hid hb; clear hb)
    go_ret
    exact ⟨rfl, HB1.out⟩
  · have hcc' : ¬ (c = a + 1) := hcc
    have HI1 := Lib.hid (HI.out (some ⟨b, off + (a + 1) * 2, none⟩) (c - (a + 1)) (fun _ => rfl))
    clear HI
    by_cases hr : r < n - (a + 1)
    · rw [if_pos hr] at HI1
      have HE : Hid (((a : Int) + 1 + r) = ((a + 1 + r : Nat) : Int)) := Lib.hid (by omega)
      go_enter Try.func30, Try.ntmps30
      go_wp2_with (go_at_call 44; (with_reducible refine (HI1.out).mono ?_); rintro e w1 ⟨rfl, hb⟩; have HB1 := Lib.hid hb; clear hb)
      go_ret
      exact ⟨(by rw [← HE.out]; try rfl), HB1.out⟩
    · rw [if_neg hr] at HI1
      have HE : Hid (((a : Int) + 1 + (n - (a + 1) : Nat)) = ((a + 1 + r : Nat) : Int)) := Lib.hid (by omega)
      go_enter Try.func30, Try.ntmps30
      go_wp2_with (go_at_call 44; (with_reducible refine (HI1.out).mono ?_); rintro e w1 ⟨rfl, hb⟩; have HB1 := Lib.hid hb; clear hb)
      go_ret
      exact ⟨(by rw [← HE.out]; try rfl), HB1.out⟩
end Go.Proofs.Ytfjgfmeanehpmaa
