/- Offsets and places by counts. -/
import Derived.Test.YtfjgfmeanehpmaaHv
import Derived.StillTailTactics
import Derived.Deep.RegionLaw
import Derived.Deep.DeepCutAuto
namespace Go.Proofs.Ytfjgfmeanehpmaa
open Go.RowKit

/-- Counts of rows lie in block g. -/
structure RN (w : World) (g : Nat) (L : List Rw) : Prop where
  lt : g < w.heap.size
  at' : ∀ k, k ≤ L.length → w.cell? ⟨g, k, none⟩ = some (.int .i64 ((pre L k : Nat) : Int))
  row : ∃ cur, w.heap[g]? = some (.cells cur 3 (0, 0))
theorem RN.past {w w' : World} {g : Nat} {L : List Rw} (h : RN w g L) (hb : Below w.heap.size w w') : RN w' g L :=
  ⟨Nat.lt_of_lt_of_le h.lt hb.size, fun k hk => (hb.cell (p := ⟨g, k, none⟩) h.lt).trans (h.at' k hk), h.row.imp fun _ hc => (hb.block g h.lt).trans hc⟩
theorem RN.of_own {w : World} {B g n : Nat} {L : List Rw} (h : w.ownsRow B 3 1 (.slice (some ⟨g, 0, none⟩) (n + 1) (n + 1)) (n + 1) (intsV (cAt L n))) (hn : n = L.length) : RN w g L :=
  ⟨(h.lt g rfl).2, fun k hk => by
    rw [h.cellAt k (by omega)]
    unfold intsV
    rw [List.getElem?_map, cAt_get L n k hk, if_pos (by omega)]
    rfl, by
    rcases h.2 with ⟨h0, _⟩ | ⟨g', cap, cur, e, _, hh, _⟩
    · cases h0
    · injection e with e1 _ _
      injection e1 with e1
      injection e1 with e1 _ _
      rw [e1]
      exact ⟨cur, hh⟩⟩
theorem ret_i {a b : Int} (h : a = b) : Ending.returned (.int .i64 a) = .returned (.int .i64 b) := by rw [h]
def offZ (L : List Rw) (row col : Int) : Nat := if row < 0 then 0 else offR L row.toNat col
set_option maxHeartbeats 2000000 in
theorem rows_any (A : Option Addr) (n c : Nat) (hn : n ≤ 1000000000) (w : World) : Calls Try.prog 48 #[.slice A (n + 1) c] w fun e w' => e = .returned (.int .i64 n) ∧ w' = w := by
  go_enter Try.func48, Try.ntmps48
  go_wp2
  go_ret
  exact ⟨rfl, rfl⟩
set_option maxRecDepth 100000 in
set_option maxHeartbeats 4000000 in
theorem offset_any (g n c : Nat) (L : List Rw) (row col : Int) (hn : n = L.length) (hl : n ≤ 100000000) (hf : (flat L).length ≤ 1000000000) (w : World) (h : RN w g L) :
    Calls Try.prog 38 #[.slice (some ⟨g, 0, none⟩) (n + 1) c, .agg #[.int .i64 row, .int .i64 col]] w fun e w' => e = .returned (.int .i64 (offZ L row col)) ∧ Below w.heap.size w w' := by
  have hRW := fun W => rows_any (some ⟨g, 0, none⟩) n c (by omega) W
  have hgl := h.lt
  rcases Int.lt_or_le row 0 with h0 | h0
  · have hz : offZ L row col = 0 := by unfold offZ; rw [if_pos h0]
    rw [hz]
    have hd : decide (row < 0) = true := decide_eq_true h0
    clear h hn hf
    go_enter Try.func38, Try.ntmps38
    go_wp2
    go_ret
    exact ⟨rfl, belA (Below.refl _ _) _⟩
  · obtain ⟨i, rfl⟩ : ∃ i : Nat, row = i := ⟨row.toNat, by omega⟩
    have hd : decide ((i : Int) < 0) = false := decide_eq_false (by omega)
    have hz : offZ L (i : Int) col = offR L i col := by unfold offZ; rw [if_neg (by omega)]; rfl
    rw [hz]
    by_cases hin : n ≤ i
    · have hz2 : offR L i col = pre L n := by rw [offR_over L i col (by omega), hn]
      rw [hz2]
      have hdn : decide (n ≤ i) = true := decide_eq_true hin
      have hni : (n : Int) ≤ i := by omega
      have hcn := h.at' n (by omega)
      have hnl : (n : Int) < (n : Int) + 1 := by omega
      have HB := fun nq => Lib.hid (belN' (w.alloc (.cells #[.int .i64 (i : Int), .int .i64 col] 39)) nq)
      clear h hn hf hz hz2 hd h0
      generalize pre L n = pn at *
      go_enter Try.func38, Try.ntmps38
      go_wp2
      go_quiet ((go_at_call 48; exact Calls.quiet_of_same (hRW _)))
      go_wp2_with (go_at_call 48; (with_reducible refine (hRW _).mono ?_); rintro e w' ⟨rfl, rfl⟩)
      go_ret
      exact ⟨rfl, bel0 (belA (Below.refl _ _) _) (HB _).out⟩
    · have hz2 : offR L i col = pre L i + min col.toNat (cnt (Ar L i)) := offR_at L i col (by omega)
      have hps := pre_succ L i (by omega)
      rw [hz2]
      have hdn : decide (n ≤ i) = false := decide_eq_false hin
      have hni : (i : Int) < (n : Int) + 1 := by omega
      have hni1 : (i : Int) + 1 < (n : Int) + 1 := by omega
      have hc0 := h.at' i (by omega)
      have hc1 := h.at' (i + 1) (by omega)
      have hb1 := pre_le L (i + 1)
      have HB := fun nq => Lib.hid (belN' (w.alloc (.cells #[.int .i64 (i : Int), .int .i64 col] 39)) nq)
      rw [hps] at hc1 hb1
      have hw1 : IntKind.i64.wrap (((pre L i + cnt (Ar L i) : Nat) : Int) - (pre L i : Nat)) = (cnt (Ar L i) : Nat) := by rw [IntKind.wrap_i64]; omega
      have hw2 : IntKind.i64.wrap ((i : Int) + 1) = (i : Int) + 1 := by rw [IntKind.wrap_i64]; omega
      have hi0 : (0 : Int) ≤ (i : Int) + 1 := by omega
      clear h hn hz hz2 hd h0 hps
      generalize pre L i = p at *
      generalize cnt (Ar L i) = q at *
      have hpq : p + q ≤ 1000000000 := by omega
      clear hf hb1
      have hpe : (p : Int) + q - p = q := by omega
      have hcs : ∃ z : Nat, min col.toNat q = z ∧ (col < 0 ∧ z = 0 ∨ 0 ≤ col ∧ col ≤ q ∧ (z : Int) = col ∨ (q : Int) < col ∧ z = q) := ⟨_, rfl, by omega⟩
      obtain ⟨z, hz, hcs⟩ := hcs
      rw [hz]
      clear hz
      rcases hcs with ⟨h1, rfl⟩ | ⟨h1, h2, h3⟩ | ⟨h1, rfl⟩
      all_goals
        go_enter Try.func38, Try.ntmps38
        go_wp2
        go_quiet ((go_at_call 48; exact Calls.quiet_of_same (hRW _)))
        go_wp2
        go_quiet (fail)
        go_wp2
        go_region
        go_wp2
        go_ret
        exact ⟨ret_i (by omega), bel0 (belA (Below.refl _ _) _) (HB _).out⟩
set_option maxRecDepth 100000 in
set_option maxHeartbeats 4000000 in
/-- sort.Search finds the place at which a test turns true, and stays so. -/
theorem search_place (a1 a2 : Addr) (p : Nat → Bool) (n r : Nat) (hn : n ≤ 1000000000) (hr : r ≤ n) (hlo : ∀ i, i < r → p i = false) (hhi : ∀ i, r ≤ i → i < n → p i = true) (w : World)
    (hf : ∀ W i, i < n → Below w.heap.size w W → Calls Try.prog 50 #[.int .i64 (i : Int), .pointer (some a1), .pointer (some a2)] W fun e w' => e = .returned (.bool (p i)) ∧ Below W.heap.size W w') :
    Calls Try.prog 49 #[.int .i64 n, .func (.func 50) #[] #[.pointer (some a1), .pointer (some a2)]] w fun e w' => e = .returned (.int .i64 r) ∧ Below w.heap.size w w' := by
  have HLO := Lib.hid hlo
  have HHI := Lib.hid hhi
  have HF := Lib.hid hf
  clear hlo hhi hf
  go_enter Try.func49, Try.ntmps49
  go_wp2
  go_loopw [5, 6] (fun a b wr => ∃ i j : Nat, a = .int .i64 i ∧ b = .int .i64 j ∧ i ≤ r ∧ r ≤ j ∧ j ≤ n ∧ Hid (Below w.heap.size w wr)) (fun a b _ => (intOf b).toNat - (intOf a).toNat)
  case atStart => exact ⟨0, n, rfl, rfl, Nat.zero_le _, hr, Nat.le_refl _, Lib.hid (Below.refl _ _)⟩
  case round =>
    obtain ⟨i, j, rfl, rfl, hi, hj, hjn, HB⟩ := hrel
    by_cases hlt : i < j
    · have hlti : (i : Int) < j := by omega
      obtain ⟨m, hmid⟩ : ∃ m : Nat, ((i : Int) + j) / 2 = m := ⟨(i + j) / 2, by omega⟩
      have hm1 : i ≤ m := by omega
      have hm2 : m < j := by omega
      have HC := Lib.hid (HF.out wr m (by omega) HB.out)
      cases hp : p m with
      | true =>
        rw [hp] at HC
        have hrm : r ≤ m := by
          rcases Nat.lt_or_ge m r with h | h
          · rw [HLO.out m h] at hp; cases hp
          · exact h
        clear hp
        go_wp2_with (go_at_call 50; (with_reducible refine (HC.out).mono ?_); rintro e w1 ⟨rfl, hb⟩; have HB1 := Lib.hid (bel0 HB.out hb); clear hb)
        clear hmid
        go_roundw
        case rel => exact ⟨i, m, rfl, rfl, hi, hrm, by omega, HB1⟩
        case measure => simp [intOf]; omega
      | false =>
        rw [hp] at HC
        have hrm : m + 1 ≤ r := by
          rcases Nat.lt_or_ge m r with h | h
          · exact h
          · rw [HHI.out m h (by omega)] at hp; cases hp
        clear hp
        go_wp2_with (go_at_call 50; (with_reducible refine (HC.out).mono ?_); rintro e w1 ⟨rfl, hb⟩; have HB1 := Lib.hid (bel0 HB.out hb); clear hb)
        clear hmid
        go_roundw
        case rel => exact ⟨m + 1, j, by go_num, rfl, hrm, hj, hjn, HB1⟩
        case measure => simp [intOf]; omega
    · obtain rfl : i = r := by omega
      have hd : decide (i < j) = false := decide_eq_false hlt
      go_wp2
      go_ret
      exact ⟨rfl, HB.out⟩
set_option maxRecDepth 100000 in
set_option maxHeartbeats 4000000 in
/-- sort.Search finds the place at which a test turns true, and stays so. -/
theorem search_moved (a1 a2 : Addr) (p : Nat → Bool) (n r : Nat) (hn : n ≤ 1000000000) (hr : r ≤ n) (hlo : ∀ i, i < r → p i = false) (hhi : ∀ i, r ≤ i → i < n → p i = true) (w : World)
    (hf : ∀ W i, i < n → Below w.heap.size w W → Calls Try.prog 53 #[.int .i64 (i : Int), .pointer (some a1), .pointer (some a2)] W fun e w' => e = .returned (.bool (p i)) ∧ Below W.heap.size W w') :
    Calls Try.prog 49 #[.int .i64 n, .func (.func 53) #[] #[.pointer (some a1), .pointer (some a2)]] w fun e w' => e = .returned (.int .i64 r) ∧ Below w.heap.size w w' := by
  have HLO := Lib.hid hlo
  have HHI := Lib.hid hhi
  have HF := Lib.hid hf
  clear hlo hhi hf
  go_enter Try.func49, Try.ntmps49
  go_wp2
  go_loopw [5, 6] (fun a b wr => ∃ i j : Nat, a = .int .i64 i ∧ b = .int .i64 j ∧ i ≤ r ∧ r ≤ j ∧ j ≤ n ∧ Hid (Below w.heap.size w wr)) (fun a b _ => (intOf b).toNat - (intOf a).toNat)
  case atStart => exact ⟨0, n, rfl, rfl, Nat.zero_le _, hr, Nat.le_refl _, Lib.hid (Below.refl _ _)⟩
  case round =>
    obtain ⟨i, j, rfl, rfl, hi, hj, hjn, HB⟩ := hrel
    by_cases hlt : i < j
    · have hlti : (i : Int) < j := by omega
      obtain ⟨m, hmid⟩ : ∃ m : Nat, ((i : Int) + j) / 2 = m := ⟨(i + j) / 2, by omega⟩
      have hm1 : i ≤ m := by omega
      have hm2 : m < j := by omega
      have HC := Lib.hid (HF.out wr m (by omega) HB.out)
      cases hp : p m with
      | true =>
        rw [hp] at HC
        have hrm : r ≤ m := by
          rcases Nat.lt_or_ge m r with h | h
          · rw [HLO.out m h] at hp; cases hp
          · exact h
        clear hp
        go_wp2_with (go_at_call 53; (with_reducible refine (HC.out).mono ?_); rintro e w1 ⟨rfl, hb⟩; have HB1 := Lib.hid (bel0 HB.out hb); clear hb)
        clear hmid
        go_roundw
        case rel => exact ⟨i, m, rfl, rfl, hi, hrm, by omega, HB1⟩
        case measure => simp [intOf]; omega
      | false =>
        rw [hp] at HC
        have hrm : m + 1 ≤ r := by
          rcases Nat.lt_or_ge m r with h | h
          · exact h
          · rw [HHI.out m h (by omega)] at hp; cases hp
        clear hp
        go_wp2_with (go_at_call 53; (with_reducible refine (HC.out).mono ?_); rintro e w1 ⟨rfl, hb⟩; have HB1 := Lib.hid (bel0 HB.out hb); clear hb)
        clear hmid
        go_roundw
        case rel => exact ⟨m + 1, j, by go_num, rfl, hrm, hj, hjn, HB1⟩
        case measure => simp [intOf]; omega
    · obtain rfl : i = r := by omega
      have hd : decide (i < j) = false := decide_eq_false hlt
      go_wp2
      go_ret
      exact ⟨rfl, HB.out⟩
end Go.Proofs.Ytfjgfmeanehpmaa
