/- Places, List, pick, Next, Ahead. -/
import Derived.Test.YtnkdbpbfapdfeaaDf
namespace Go.Proofs.Ytnkdbpbfapdfeaa
open Go.RowKit

theorem plC_eq : ∀ l, cellsP l = plC l
  | [] => rfl
  | x :: l => by rw [cellsP, plC, plC_eq l]
set_option maxRecDepth 100000 in
set_option maxHeartbeats 2000000 in
theorem places_any {w : World} {D : Nat} {v : Value} {most : Int} {L : List (Int × Int)} (h : PM w D v most L) (hl : L.length ≤ 1000) :
    Calls Try.prog 15 #[.pointer (some ⟨D, 0, none⟩)] w fun e w' => ∃ A c, e = .returned (.slice A L.length c) ∧ Below w.heap.size w w' ∧ RPl w' w'.heap.size A L := by
  obtain ⟨⟨d0, d1⟩, df⟩ := h.cells
  obtain ⟨A, c, rfl⟩ := h.row.shape
  have HC := Lib.hid (clone_any A L L.length c rfl hl w (h.row.rpl rfl))
  clear h
  go_enter Try.func15, Try.ntmps15
  go_wp2_with (go_at_call 29; (with_reducible refine (HC.out).mono ?_); rintro e w1 ⟨v, rfl, hb, ho⟩; obtain ⟨A1, c1, rfl, _⟩ := own_form ho; have HO := Lib.hid ho; have HB := Lib.hid hb; clear ho hb)
  go_ret
  refine ⟨_, _, rfl, HB.out, ?_⟩
  have ho := HO.out
  by_cases hne : L = []
  · exact fun e => absurd hne e
  · rcases ho.2 with ⟨_, h0⟩ | ⟨g', cap, cur, e, _, _⟩
    · exact absurd (List.eq_nil_of_length_eq_zero h0) hne
    · injection e with e1 _ e3
      subst e1
      obtain ⟨hH, hBg, hg⟩ := holds_of_own ho hne
      exact rows_of_holds hH hg
set_option maxRecDepth 100000 in
set_option maxHeartbeats 2000000 in
theorem list_any {w : World} {D : Nat} {v : Value} {most : Int} {L : List (Int × Int)} (h : PM w D v most L) (hl : L.length ≤ 1000) :
    Calls Try.prog 13 #[.pointer (some ⟨D, 0, none⟩)] w fun e w' => ∃ A c, e = .returned (.slice A L.length c) ∧ Below w.heap.size w w' ∧ RPl w' w'.heap.size A (srt L) := by
  have HC := Lib.hid (places_any h hl)
  have HS := Lib.hid (fun A c W hr => sort_any A L L.length c rfl hl W hr)
  clear h
  generalize srt L = sl at *
  go_enter Try.func13, Try.ntmps13
  go_wp2_with (first
    | (go_at_call 15; (with_reducible refine (HC.out).mono ?_); rintro e w1 ⟨A1, c1, rfl, hb, hr⟩; have HR := Lib.hid hr; have HB := Lib.hid hb; clear hr hb)
    | (go_at_call 28; (with_reducible refine (HS.out _ _ _ HR.out).mono ?_); rintro e w2 ⟨A2, c2, rfl, hb2, hr2⟩; have HR2 := Lib.hid hr2; have HB2 := Lib.hid (bel0 HB.out hb2); clear hr2 hb2))
  go_ret
  exact ⟨_, _, rfl, HB2.out, HR2.out⟩
set_option maxRecDepth 100000 in
set_option maxHeartbeats 2000000 in
theorem list_none (w : World) : Calls Try.prog 13 #[.pointer none] w fun e w' => ∃ A c, e = .returned (.slice A 0 c) ∧ Below w.heap.size w w' := by
  have HC := Lib.hid (fun W => places_none W)
  have HS := Lib.hid (fun A c W => sort_any A [] 0 c rfl (by omega) W (fun e => absurd rfl e))
  go_enter Try.func13, Try.ntmps13
  go_wp2_with (first
    | (go_at_call 15; (with_reducible refine (HC.out _).mono ?_); rintro e w1 ⟨rfl, rfl⟩)
    | (go_at_call 28; (with_reducible refine (HS.out _ _ _).mono ?_); rintro e w2 ⟨A2, c2, rfl, hb2, hr2⟩; have HB2 := Lib.hid hb2; clear hr2 hb2))
  go_ret
  exact ⟨_, _, rfl, HB2.out⟩
/-- The place i, if there is one. -/
def pk (s : List (Int × Int)) (i : Int) : (Int × Int) × Bool := if 0 ≤ i ∧ i < s.length then (At s i.toNat, true) else ((0, 0), false)
set_option maxRecDepth 100000 in
set_option maxHeartbeats 2000000 in
theorem pick_any (A : Option Addr) (s : List (Int × Int)) (n c : Nat) (i : Int) (hn : n = s.length) (w : World) (h : RPl w w.heap.size A s) :
    Calls Try.prog 37 #[.slice A n c, .int .i64 i] w fun e w' => e = .returned (.tuple #[.agg #[.int .i64 (pk s i).1.1, .int .i64 (pk s i).1.2], .bool (pk s i).2]) ∧ Below w.heap.size w w' := by
  by_cases h0 : i < 0
  · rw [show pk s i = ((0, 0), false) from if_neg (by omega)]
    go_enter Try.func37, Try.ntmps37
    go_wp2
    refine bodyPost_ret (v := .tuple #[.agg #[.int .i64 0, .int .i64 0], .bool false]) (by simp [results, Try.results37, go_sem]) rfl ⟨rfl, ?_⟩
    exact belA (Below.refl _ _) _
  · have hd0 : decide (i < 0) = false := decide_eq_false h0
    by_cases h1 : (n : Int) ≤ i
    · rw [show pk s i = ((0, 0), false) from if_neg (by omega)]
      have hd1 : decide ((n : Int) ≤ i) = true := decide_eq_true h1
      go_enter Try.func37, Try.ntmps37
      go_wp2
      refine bodyPost_ret (v := .tuple #[.agg #[.int .i64 0, .int .i64 0], .bool false]) (by simp [results, Try.results37, go_sem]) rfl ⟨rfl, ?_⟩
      exact belA (Below.refl _ _) _
    · obtain ⟨j, rfl⟩ : ∃ j : Nat, i = j := ⟨i.toNat, by omega⟩
      rw [show pk s j = (At s j, true) from if_pos (by omega)]
      obtain ⟨b, off, rfl, hG⟩ := h.at (fun e => by rw [e] at hn; simp at hn; omega)
      obtain ⟨G0, GA⟩ := hG _ (Below.refl _ _)
      obtain ⟨z0, z1⟩ := GA j (by omega)
      have hlt : (j : Int) < n := by omega
      have hj0 : (0 : Int) ≤ j := by omega
      have hd1 : decide ((n : Int) ≤ j) = false := decide_eq_false h1
      generalize At s j = x at *
      clear h hG GA
      go_enter Try.func37, Try.ntmps37
      go_wp2
      refine bodyPost_ret (v := .tuple #[.agg #[.int .i64 x.1, .int .i64 x.2], .bool true]) (by simp [results, Try.results37, go_sem]) rfl ⟨rfl, ?_⟩
      exact belA (Below.refl _ _) _
set_option maxRecDepth 100000 in
set_option maxHeartbeats 4000000 in
theorem next1_any (a1 a2 : Nat) (fr fc : Int) (A : Option Addr) (s : List (Int × Int)) (n c i : Nat) (hn : n = s.length) (hi : i < n) (w : World) (h : RPl w w.heap.size A s)
    (h1 : w.heap[a1]? = some (.cells #[.int .i64 fr, .int .i64 fc] 30 (0, 0))) (h2 : w.heap[a2]? = some (.cells #[.slice A n c] 40 (0, 0))) :
    Calls Try.prog 35 #[.int .i64 (i : Int), .pointer (some ⟨a1, 0, none⟩), .pointer (some ⟨a2, 0, none⟩)] w fun e w' => e = .returned (.bool (lessB fr fc (At s i).1 (At s i).2)) ∧ Below w.heap.size w w' := by
  obtain ⟨b, off, rfl, hG⟩ := h.at (fun e => by rw [e] at hn; simp at hn; omega)
  obtain ⟨G0, GA⟩ := hG _ (Below.refl _ _)
  obtain ⟨z0, z1⟩ := GA i (by omega)
  have c0 := cell_of_row _ _ 0 _ _ _ h1
  have c1 := cell_of_row _ _ 1 _ _ _ h1
  have k0 := cell_of_row _ _ 0 _ _ _ h2
  have l1 := (Array.getElem?_eq_some_iff.1 h1).1
  have l2 := (Array.getElem?_eq_some_iff.1 h2).1
  have HL := Lib.hid (fun W => less_as fr fc (At s i).1 (At s i).2 _ rfl W)
  generalize lessB fr fc (At s i).1 (At s i).2 = bb at *
  generalize At s i = x at *
  have hii : (i : Int) < n := by omega
  have hi0 : (0 : Int) ≤ i := by omega
  clear h hG GA h1 h2
  go_enter Try.func35, Try.ntmps35
  go_wp2
  go_region_with (go_at_call 36; (with_reducible refine (HL.out _).mono ?_); rintro e w1 ⟨rfl, hb⟩; have HB1 := Lib.hid (belD hb); clear hb)
  all_goals
    go_wp2
    go_ret
    exact ⟨rfl, HB1.out⟩
set_option maxRecDepth 100000 in
set_option maxHeartbeats 4000000 in
theorem ahead1_any (a1 a2 : Nat) (fr fc : Int) (A : Option Addr) (s : List (Int × Int)) (n c i : Nat) (hn : n = s.length) (hi : i < n) (w : World) (h : RPl w w.heap.size A s)
    (h1 : w.heap[a1]? = some (.cells #[.int .i64 fr, .int .i64 fc] 30 (0, 0))) (h2 : w.heap[a2]? = some (.cells #[.slice A n c] 40 (0, 0))) :
    Calls Try.prog 38 #[.int .i64 (i : Int), .pointer (some ⟨a2, 0, none⟩), .pointer (some ⟨a1, 0, none⟩)] w fun e w' => e = .returned (.bool (!lessB (At s i).1 (At s i).2 fr fc)) ∧ Below w.heap.size w w' := by
  obtain ⟨b, off, rfl, hG⟩ := h.at (fun e => by rw [e] at hn; simp at hn; omega)
  obtain ⟨G0, GA⟩ := hG _ (Below.refl _ _)
  obtain ⟨z0, z1⟩ := GA i (by omega)
  have c0 := cell_of_row _ _ 0 _ _ _ h1
  have c1 := cell_of_row _ _ 1 _ _ _ h1
  have k0 := cell_of_row _ _ 0 _ _ _ h2
  have l1 := (Array.getElem?_eq_some_iff.1 h1).1
  have l2 := (Array.getElem?_eq_some_iff.1 h2).1
  have HL := Lib.hid (fun W => less_as (At s i).1 (At s i).2 fr fc _ rfl W)
  generalize lessB (At s i).1 (At s i).2 fr fc = bb at *
  generalize At s i = x at *
  have hii : (i : Int) < n := by omega
  have hi0 : (0 : Int) ≤ i := by omega
  clear h hG GA h1 h2
  go_enter Try.func38, Try.ntmps38
  go_wp2
  go_region_with (go_at_call 36; (with_reducible refine (HL.out _).mono ?_); rintro e w1 ⟨rfl, hb⟩; have HB1 := Lib.hid (belD hb); clear hb)
  all_goals
    go_wp2
    go_ret
    exact ⟨rfl, HB1.out⟩
set_option maxRecDepth 100000 in
set_option maxHeartbeats 4000000 in
theorem search_next (a1 a2 : Addr) (p : Nat → Bool) (n r : Nat) (hn : n ≤ 1000000000) (hr : r ≤ n) (hlo : ∀ i, i < r → p i = false) (hhi : ∀ i, r ≤ i → i < n → p i = true) (w : World)
    (hf : ∀ W i, i < n → Below w.heap.size w W → Calls Try.prog 35 #[.int .i64 (i : Int), .pointer (some a1), .pointer (some a2)] W fun e w' => e = .returned (.bool (p i)) ∧ Below W.heap.size W w') :
    Calls Try.prog 34 #[.int .i64 n, .func (.func 35) #[] #[.pointer (some a1), .pointer (some a2)]] w fun e w' => e = .returned (.int .i64 r) ∧ Below w.heap.size w w' := by
  have HLO := Lib.hid hlo
  have HHI := Lib.hid hhi
  have HF := Lib.hid hf
  clear hlo hhi hf
  go_enter Try.func34, Try.ntmps34
  go_wp2
  go_loopw [5, 6] (fun a b wr => ∃ i j : Nat, a = .int .i64 i ∧ b = .int .i64 j ∧ i ≤ r ∧ r ≤ j ∧ j ≤ n ∧ Hid (Below w.heap.size w wr)) (fun a b _ => (intOf b).toNat - (intOf a).toNat)
  case atStart => exact ⟨0, n, rfl, rfl, Nat.zero_le _, hr, Nat.le_refl _, Lib.hid (Below.refl _ _)⟩
  case round =>
    obtain ⟨i, j, rfl, rfl, hi, hj, hjn, HB⟩ := hrel
    by_cases hlt : i < j
    · have hlti : (i : Int) < j := by omega
      obtain ⟨m, hmid⟩ : ∃ m : Nat, ((i : Int) + j) / 2 = m := ⟨(i + j) / 2, by omega⟩
      have hm1 : i ≤ m := by omega
      have hm2 : m < j := by omega
      have HC := Lib.hid (HF.out wr m (by omega) HB.out)
      cases hp : p m with
      | true =>
        rw [hp] at HC
        have hrm : r ≤ m := by
          rcases Nat.lt_or_ge m r with h | h
          · rw [HLO.out m h] at hp; cases hp
          · exact h
        clear hp
        go_wp2_with (go_at_call 35; (with_reducible refine (HC.out).mono ?_); rintro e w1 ⟨rfl, hb⟩; have HB1 := Lib.hid (bel0 HB.out hb); clear hb)
        clear hmid
        go_roundw
        case rel => exact ⟨i, m, rfl, rfl, hi, hrm, by omega, HB1⟩
        case measure => simp [intOf]; omega
      | false =>
        rw [hp] at HC
        have hrm : m + 1 ≤ r := by
          rcases Nat.lt_or_ge m r with h | h
          · exact h
          · rw [HHI.out m h (by omega)] at hp; cases hp
        clear hp
        go_wp2_with (go_at_call 35; (with_reducible refine (HC.out).mono ?_); rintro e w1 ⟨rfl, hb⟩; have HB1 := Lib.hid (bel0 HB.out hb); clear hb)
        clear hmid
        go_roundw
        case rel => exact ⟨m + 1, j, by go_num, rfl, hrm, hj, hjn, HB1⟩
        case measure => simp [intOf]; omega
    · obtain rfl : i = r := by omega
      have hd : decide (i < j) = false := decide_eq_false hlt
      go_wp2
      go_ret
      exact ⟨rfl, HB.out⟩
set_option maxRecDepth 100000 in
set_option maxHeartbeats 4000000 in
theorem search_ahead (a1 a2 : Addr) (p : Nat → Bool) (n r : Nat) (hn : n ≤ 1000000000) (hr : r ≤ n) (hlo : ∀ i, i < r → p i = false) (hhi : ∀ i, r ≤ i → i < n → p i = true) (w : World)
    (hf : ∀ W i, i < n → Below w.heap.size w W → Calls Try.prog 38 #[.int .i64 (i : Int), .pointer (some a1), .pointer (some a2)] W fun e w' => e = .returned (.bool (p i)) ∧ Below W.heap.size W w') :
    Calls Try.prog 34 #[.int .i64 n, .func (.func 38) #[] #[.pointer (some a1), .pointer (some a2)]] w fun e w' => e = .returned (.int .i64 r) ∧ Below w.heap.size w w' := by
  have HLO := Lib.hid hlo
  have HHI := Lib.hid hhi
  have HF := Lib.hid hf
  clear hlo hhi hf
  go_enter Try.func34, Try.ntmps34
  go_wp2
  go_loopw [5, 6] (fun a b wr => ∃ i j : Nat, a = .int .i64 i ∧ b = .int .i64 j ∧ i ≤ r ∧ r ≤ j ∧ j ≤ n ∧ Hid (Below w.heap.size w wr)) (fun a b _ => (intOf b).toNat - (intOf a).toNat)
  case atStart => exact ⟨0, n, rfl, rfl, Nat.zero_le _, hr, Nat.le_refl _, Lib.hid (Below.refl _ _)⟩
  case round =>
    obtain ⟨i, j, rfl, rfl, hi, hj, hjn, HB⟩ := hrel
    by_cases hlt : i < j
    · have hlti : (i : Int) < j := by omega
      obtain ⟨m, hmid⟩ : ∃ m : Nat, ((i : Int) + j) / 2 = m := ⟨(i + j) / 2, by omega⟩
      have hm1 : i ≤ m := by omega
      have hm2 : m < j := by omega
      have HC := Lib.hid (HF.out wr m (by omega) HB.out)
      cases hp : p m with
      | true =>
        rw [hp] at HC
        have hrm : r ≤ m := by
          rcases Nat.lt_or_ge m r with h | h
          · rw [HLO.out m h] at hp; cases hp
          · exact h
        clear hp
        go_wp2_with (go_at_call 38; (with_reducible refine (HC.out).mono ?_); rintro e w1 ⟨rfl, hb⟩; have HB1 := Lib.hid (bel0 HB.out hb); clear hb)
        clear hmid
        go_roundw
        case rel => exact ⟨i, m, rfl, rfl, hi, hrm, by omega, HB1⟩
        case measure => simp [intOf]; omega
      | false =>
        rw [hp] at HC
        have hrm : m + 1 ≤ r := by
          rcases Nat.lt_or_ge m r with h | h
          · exact h
          · rw [HHI.out m h (by omega)] at hp; cases hp
        clear hp
        go_wp2_with (go_at_call 38; (with_reducible refine (HC.out).mono ?_); rintro e w1 ⟨rfl, hb⟩; have HB1 := Lib.hid (bel0 HB.out hb); clear hb)
        clear hmid
        go_roundw
        case rel => exact ⟨m + 1, j, by go_num, rfl, hrm, hj, hjn, HB1⟩
        case measure => simp [intOf]; omega
    · obtain rfl : i = r := by omega
      have hd : decide (i < j) = false := decide_eq_false hlt
      go_wp2
      go_ret
      exact ⟨rfl, HB.out⟩
set_option maxRecDepth 100000 in
set_option maxHeartbeats 4000000 in
theorem next_of (recv : Value) (s : List (Int × Int)) (hl : s.length ≤ 1000) (w : World) (hlst : ∀ W, Below w.heap.size w W → Calls Try.prog 13 #[recv] W fun e w' => ∃ A c, e = .returned (.slice A s.length c) ∧ Below W.heap.size W w' ∧ RPl w' w'.heap.size A s)
    (fr fc : Int) (r : Nat) (hr : r ≤ s.length) (hlo : ∀ i, i < r → lessB fr fc (At s i).1 (At s i).2 = false) (hhi : ∀ i, r ≤ i → i < s.length → lessB fr fc (At s i).1 (At s i).2 = true) :
    Calls Try.prog 20 #[recv, .agg #[.int .i64 fr, .int .i64 fc]] w fun e w' => e = .returned (.tuple #[.agg #[.int .i64 (pk s (r : Int)).1.1, .int .i64 (pk s (r : Int)).1.2], .bool (pk s (r : Int)).2]) ∧ Below w.heap.size w w' := by
  have HLST := Lib.hid (hlst _ (belA (belA (Below.refl _ _) (.cells #[.int .i64 fr, .int .i64 fc] 30)) (.cells #[.int .i64 0, .int .i64 0] 30)))
  have HS : Hid (∀ (A : Option Addr) (c : Nat) (w1 : World), Below ((w.alloc (.cells #[.int .i64 fr, .int .i64 fc] 30)).alloc (.cells #[.int .i64 0, .int .i64 0] 30)).heap.size ((w.alloc (.cells #[.int .i64 fr, .int .i64 fc] 30)).alloc (.cells #[.int .i64 0, .int .i64 0] 30)) w1 → RPl w1 w1.heap.size A s → Calls Try.prog 34 #[.int .i64 s.length, .func (.func 35) #[] #[.pointer (some ⟨w.heap.size, 0, none⟩), .pointer (some ⟨w1.heap.size, 0, none⟩)]] (w1.alloc (.cells #[.slice A s.length c] 40)) fun e w' => e = .returned (.int .i64 r) ∧ Below (w1.alloc (.cells #[.slice A s.length c] 40)).heap.size (w1.alloc (.cells #[.slice A s.length c] 40)) w') := Lib.hid fun A c w1 hb hrp => by
    have g1 := keep hb (old1 (heap_alloc_new w _))
    refine search_next _ _ (fun i => lessB fr fc (At s i).1 (At s i).2) s.length r (by omega) hr hlo hhi _ fun W i hi hW => ?_
    exact next1_any w.heap.size w1.heap.size fr fc A s s.length c i rfl hi W (hrp.past (bel0 (belA (Below.refl _ _) _) hW)) (keep hW (old1 g1)) (keep hW (heap_alloc_new w1 _))
  have HP := Lib.hid (fun A c W h => pick_any A s s.length c (r : Int) rfl W h)
  have HW : Hid (∀ (A : Option Addr) (c : Nat) (w1 w2 : World), Below ((w.alloc (.cells #[.int .i64 fr, .int .i64 fc] 30)).alloc (.cells #[.int .i64 0, .int .i64 0] 30)).heap.size ((w.alloc (.cells #[.int .i64 fr, .int .i64 fc] 30)).alloc (.cells #[.int .i64 0, .int .i64 0] 30)) w1 → RPl w1 w1.heap.size A s → Below (w1.alloc (.cells #[.slice A s.length c] 40)).heap.size (w1.alloc (.cells #[.slice A s.length c] 40)) w2 →
      (w2.cell? ⟨w1.heap.size, 0, none⟩ = some (.slice A s.length c) ∧ w1.heap.size < w2.heap.size) ∧ RPl w2 w2.heap.size A s ∧ ∀ w3, Below w2.heap.size w2 w3 → (w3.cell? ⟨w.heap.size + 1, 0, none⟩ = some (.int .i64 0) ∧ w3.cell? ⟨w.heap.size + 1, 1, none⟩ = some (.int .i64 0) ∧ (∀ k, w3.frozen? ⟨w.heap.size + 1, k, none⟩ = false) ∧ w.heap.size + 1 < w3.heap.size) ∧ ∀ x y, Below w.heap.size w ((w3.setCell ⟨w.heap.size + 1, 0, none⟩ x).setCell ⟨w.heap.size + 1, 1, none⟩ y)) := Lib.hid fun A c w1 w2 hb hrp hb2 => by
    have h12 : Below w1.heap.size w1 w2 := bel0 (belA (Below.refl _ _) _) hb2
    refine ⟨⟨cell_of_row _ _ 0 _ _ _ (keep hb2 (heap_alloc_new w1 _)), sz1 hb2⟩, hrp.past h12, fun w3 h3 => ?_⟩
    have g := keep hb (heap_alloc_new (w.alloc (.cells #[.int .i64 fr, .int .i64 fc] 30)) (.cells #[.int .i64 0, .int .i64 0] 30))
    rw [World.size_alloc] at g
    have g3 := keep (bel0 h12 h3) g
    have hB : Below w.heap.size w w3 := bel0 (bel0 (belA (belA (Below.refl _ _) _) _) hb) (bel0 h12 h3)
    exact ⟨⟨cell_of_row _ _ 0 _ _ _ g3, cell_of_row _ _ 1 _ _ _ g3, unfrozen_of g3, (Array.getElem?_eq_some_iff.1 g3).1⟩, fun x y => (hB.setCell (p := ⟨w.heap.size + 1, 0, none⟩) (Nat.le_succ _) _).setCell (p := ⟨w.heap.size + 1, 1, none⟩) (Nat.le_succ _) _⟩
  clear hlst hlo hhi
  generalize pk s (r : Int) = z at *
  go_enter Try.func20, Try.ntmps20
  go_wp2_with (first
    | (go_at_call 13; (with_reducible refine (HLST.out).mono ?_); rintro e w1 ⟨A1, c1, rfl, hb, hr1⟩; have HB := Lib.hid hb; have HR := Lib.hid hr1; clear hb hr1)
    | (go_at_call 34; (with_reducible refine (HS.out _ _ _ HB.out HR.out).mono ?_); rintro e w2 ⟨rfl, hb2⟩; obtain ⟨⟨k0, k1⟩, hr2, hw3⟩ := HW.out _ _ _ _ HB.out HR.out hb2; have HR2 := Lib.hid hr2; have HW3 := Lib.hid hw3; clear hb2 hr2 hw3)
    | (go_at_call 37; (with_reducible refine (HP.out _ _ _ HR2.out).mono ?_); rintro e w3 ⟨rfl, hb3⟩; obtain ⟨⟨x0, x1, xf, xl⟩, hB⟩ := HW3.out _ hb3; have HB3 := Lib.hid hB; clear hb3 hB))
  refine bodyPost_ret (v := .tuple #[.agg #[.int .i64 z.1.1, .int .i64 z.1.2], .bool z.2]) (by simp [results, Try.results20, go_sem, x0, x1]) rfl ⟨rfl, ?_⟩
  exact HB3.out _ _
set_option maxRecDepth 100000 in
set_option maxHeartbeats 4000000 in
theorem ahead_of (recv : Value) (s : List (Int × Int)) (hl : s.length ≤ 1000) (w : World) (hlst : ∀ W, Below w.heap.size w W → Calls Try.prog 13 #[recv] W fun e w' => ∃ A c, e = .returned (.slice A s.length c) ∧ Below W.heap.size W w' ∧ RPl w' w'.heap.size A s)
    (fr fc : Int) (r : Nat) (hr : r ≤ s.length) (hlo : ∀ i, i < r → (!lessB (At s i).1 (At s i).2 fr fc) = false) (hhi : ∀ i, r ≤ i → i < s.length → (!lessB (At s i).1 (At s i).2 fr fc) = true) :
    Calls Try.prog 21 #[recv, .agg #[.int .i64 fr, .int .i64 fc]] w fun e w' => e = .returned (.tuple #[.agg #[.int .i64 (pk s ((r : Int) - 1)).1.1, .int .i64 (pk s ((r : Int) - 1)).1.2], .bool (pk s ((r : Int) - 1)).2]) ∧ Below w.heap.size w w' := by
  have HLST := Lib.hid (hlst _ (belA (belA (Below.refl _ _) (.cells #[.int .i64 fr, .int .i64 fc] 30)) (.cells #[.int .i64 0, .int .i64 0] 30)))
  have HS : Hid (∀ (A : Option Addr) (c : Nat) (w1 : World), Below ((w.alloc (.cells #[.int .i64 fr, .int .i64 fc] 30)).alloc (.cells #[.int .i64 0, .int .i64 0] 30)).heap.size ((w.alloc (.cells #[.int .i64 fr, .int .i64 fc] 30)).alloc (.cells #[.int .i64 0, .int .i64 0] 30)) w1 → RPl w1 w1.heap.size A s → Calls Try.prog 34 #[.int .i64 s.length, .func (.func 38) #[] #[.pointer (some ⟨w1.heap.size, 0, none⟩), .pointer (some ⟨w.heap.size, 0, none⟩)]] (w1.alloc (.cells #[.slice A s.length c] 40)) fun e w' => e = .returned (.int .i64 r) ∧ Below (w1.alloc (.cells #[.slice A s.length c] 40)).heap.size (w1.alloc (.cells #[.slice A s.length c] 40)) w') := Lib.hid fun A c w1 hb hrp => by
    have g1 := keep hb (old1 (heap_alloc_new w _))
    refine search_ahead _ _ (fun i => (!lessB (At s i).1 (At s i).2 fr fc)) s.length r (by omega) hr hlo hhi _ fun W i hi hW => ?_
    exact ahead1_any w.heap.size w1.heap.size fr fc A s s.length c i rfl hi W (hrp.past (bel0 (belA (Below.refl _ _) _) hW)) (keep hW (old1 g1)) (keep hW (heap_alloc_new w1 _))
  have HP := Lib.hid (fun A c W h => pick_any A s s.length c ((r : Int) - 1) rfl W h)
  have HW : Hid (∀ (A : Option Addr) (c : Nat) (w1 w2 : World), Below ((w.alloc (.cells #[.int .i64 fr, .int .i64 fc] 30)).alloc (.cells #[.int .i64 0, .int .i64 0] 30)).heap.size ((w.alloc (.cells #[.int .i64 fr, .int .i64 fc] 30)).alloc (.cells #[.int .i64 0, .int .i64 0] 30)) w1 → RPl w1 w1.heap.size A s → Below (w1.alloc (.cells #[.slice A s.length c] 40)).heap.size (w1.alloc (.cells #[.slice A s.length c] 40)) w2 →
      (w2.cell? ⟨w1.heap.size, 0, none⟩ = some (.slice A s.length c) ∧ w1.heap.size < w2.heap.size) ∧ RPl w2 w2.heap.size A s ∧ ∀ w3, Below w2.heap.size w2 w3 → (w3.cell? ⟨w.heap.size + 1, 0, none⟩ = some (.int .i64 0) ∧ w3.cell? ⟨w.heap.size + 1, 1, none⟩ = some (.int .i64 0) ∧ (∀ k, w3.frozen? ⟨w.heap.size + 1, k, none⟩ = false) ∧ w.heap.size + 1 < w3.heap.size) ∧ ∀ x y, Below w.heap.size w ((w3.setCell ⟨w.heap.size + 1, 0, none⟩ x).setCell ⟨w.heap.size + 1, 1, none⟩ y)) := Lib.hid fun A c w1 w2 hb hrp hb2 => by
    have h12 : Below w1.heap.size w1 w2 := bel0 (belA (Below.refl _ _) _) hb2
    refine ⟨⟨cell_of_row _ _ 0 _ _ _ (keep hb2 (heap_alloc_new w1 _)), sz1 hb2⟩, hrp.past h12, fun w3 h3 => ?_⟩
    have g := keep hb (heap_alloc_new (w.alloc (.cells #[.int .i64 fr, .int .i64 fc] 30)) (.cells #[.int .i64 0, .int .i64 0] 30))
    rw [World.size_alloc] at g
    have g3 := keep (bel0 h12 h3) g
    have hB : Below w.heap.size w w3 := bel0 (bel0 (belA (belA (Below.refl _ _) _) _) hb) (bel0 h12 h3)
    exact ⟨⟨cell_of_row _ _ 0 _ _ _ g3, cell_of_row _ _ 1 _ _ _ g3, unfrozen_of g3, (Array.getElem?_eq_some_iff.1 g3).1⟩, fun x y => (hB.setCell (p := ⟨w.heap.size + 1, 0, none⟩) (Nat.le_succ _) _).setCell (p := ⟨w.heap.size + 1, 1, none⟩) (Nat.le_succ _) _⟩
  clear hlst hlo hhi
  have hw : IntKind.i64.wrap ((r : Int) - 1) = (r : Int) - 1 := by rw [IntKind.wrap_i64]; omega
  generalize pk s ((r : Int) - 1) = z at *
  go_enter Try.func21, Try.ntmps21
  go_wp2_with (first
    | (go_at_call 13; (with_reducible refine (HLST.out).mono ?_); rintro e w1 ⟨A1, c1, rfl, hb, hr1⟩; have HB := Lib.hid hb; have HR := Lib.hid hr1; clear hb hr1)
    | (go_at_call 34; (with_reducible refine (HS.out _ _ _ HB.out HR.out).mono ?_); rintro e w2 ⟨rfl, hb2⟩; obtain ⟨⟨k0, k1⟩, hr2, hw3⟩ := HW.out _ _ _ _ HB.out HR.out hb2; have HR2 := Lib.hid hr2; have HW3 := Lib.hid hw3; clear hb2 hr2 hw3)
    | (go_at_call 37; (with_reducible refine (HP.out _ _ _ HR2.out).mono ?_); rintro e w3 ⟨rfl, hb3⟩; obtain ⟨⟨x0, x1, xf, xl⟩, hB⟩ := HW3.out _ hb3; have HB3 := Lib.hid hB; clear hb3 hB))
  refine bodyPost_ret (v := .tuple #[.agg #[.int .i64 z.1.1, .int .i64 z.1.2], .bool z.2]) (by simp [results, Try.results21, go_sem, x0, x1]) rfl ⟨rfl, ?_⟩
  exact HB3.out _ _
end Go.Proofs.Ytnkdbpbfapdfeaa
