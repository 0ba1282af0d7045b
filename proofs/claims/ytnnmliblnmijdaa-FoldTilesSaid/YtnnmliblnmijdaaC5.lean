/- The law FoldTiles. -/
import Derived.Test.YtnnmliblnmijdaaD5
import Derived.Test.YtnnmliblnmijdaaC1
namespace Go.Proofs.Ytnnmliblnmijdaa
open Go.RowKit

/-- Items stand one behind the other, from a row to another one. -/
def Tile : Int → List T3 → Int → Prop
  | a, [], b => a = b
  | a, x :: L, b => x.1 = a ∧ Tile (a + max 1 x.2.2) L b
theorem tile_app : ∀ {a b c : Int} {L M : List T3}, Tile a L b → Tile b M c → Tile a (L ++ M) c
  | a, b, c, [], M, h, h' => by
    have h : a = b := h
    subst h; exact h'
  | a, b, c, x :: L, M, h, h' => ⟨h.1, tile_app h.2 h'⟩
theorem tile_show (a : Int) : ∀ m, Tile a (showL a m) (a + m)
  | 0 => by show a = _; simp
  | m + 1 => by
    refine tile_app (tile_show a m) ⟨rfl, ?_⟩
    show a + m + max 1 0 = a + ((m + 1 : Nat) : Int)
    omega
theorem tile_lay {rows : Int} {l : List T3} (hr : rightB rows 0 l = true) : ∀ k, k ≤ l.length → Tile 0 (layK l k) (endV l k)
  | 0, _ => rfl
  | k + 1, hk => by
    have h1 := right_at hr k (by omega)
    have h2 := tile_show (endV l k) ((Nth l k).1 - endV l k).toNat
    rw [show endV l k + (((Nth l k).1 - endV l k).toNat : Nat) = (Nth l k).1 by omega] at h2
    refine tile_app (tile_app (tile_lay hr k (by omega)) h2) ⟨rfl, ?_⟩
    show (Nth l k).1 + max 1 ((Nth l k).2.1 - (Nth l k).1) = (Nth l k).2.1
    omega
theorem tile_all {rows : Int} {l : List T3} (hr : rightB rows 0 l = true) (h0 : 0 ≤ rows) : Tile 0 (layV rows l) rows := by
  have h1 := cnt_in hr h0 l.length (Nat.le_refl _)
  have h2 := tile_show (endV l l.length) (rows - endV l l.length).toNat
  rw [show endV l l.length + ((rows - endV l l.length).toNat : Nat) = rows by omega] at h2
  exact tile_app (tile_lay hr _ (Nat.le_refl _)) h2
/-- The row at which the j-th item stands. -/
def atK : Int → List T3 → Nat → Int
  | a, _, 0 => a
  | a, [], _ + 1 => a
  | a, x :: L, j + 1 => atK (a + max 1 x.2.2) L j
theorem atK_snoc : ∀ (a : Int) (L : List T3) (j : Nat), j < L.length → atK a L (j + 1) = atK a L j + max 1 (Nth L j).2.2
  | a, [], j, h => by simp at h
  | a, x :: L, 0, _ => by simp [atK, Nth]
  | a, x :: L, j + 1, h => by
    show atK (a + max 1 x.2.2) L (j + 1) = atK (a + max 1 x.2.2) L j + _
    rw [atK_snoc _ L j (by simpa using h)]
    simp [Nth]
theorem tile_at : ∀ {a b : Int} {L : List T3}, Tile a L b → (∀ j, j < L.length → (Nth L j).1 = atK a L j) ∧ atK a L L.length = b ∧ (∀ j, j ≤ L.length → a ≤ atK a L j ∧ atK a L j ≤ b)
  | a, b, [], h => by
    have h : a = b := h
    subst h
    exact ⟨fun j hj => by simp at hj, rfl, fun j hj => by
      have hj : j = 0 := by simpa using hj
      subst hj
      exact ⟨Int.le_refl _, Int.le_refl _⟩⟩
  | a, b, x :: L, h => by
    obtain ⟨h1, h2⟩ := h
    obtain ⟨i1, i2, i3⟩ := tile_at h2
    have i0 := i3 0 (Nat.zero_le _)
    refine ⟨fun j hj => ?_, i2, fun j hj => ?_⟩
    · cases j with
      | zero => simpa [Nth, atK] using h1
      | succ j => simpa [Nth, atK] using i1 j (by simpa using hj)
    · have e0 : atK (a + max 1 x.2.2) L 0 = a + max 1 x.2.2 := by cases L <;> rfl
      cases j with
      | zero => show a ≤ a ∧ a ≤ b; omega
      | succ j =>
        have := i3 j (by simpa using hj)
        show a ≤ atK (a + max 1 x.2.2) L j ∧ atK (a + max 1 x.2.2) L j ≤ b
        omega
theorem show_nth (a : Int) : ∀ (m i : Nat), i < m → Nth (showL a m) i = (a + i, 0, 0)
  | 0, i, h => by omega
  | m + 1, i, h => by
    by_cases e : i = m
    · subst e
      have := nth_last (L := showL a i) (x := ((a + i : Int), 0, 0))
      rwa [showL_len] at this
    · rw [showL, nth_app (by rw [showL_len]; omega)]
      exact show_nth a m i (by omega)
theorem lay_none (rows : Int) : layV rows [] = showL 0 rows.toNat := by simp [layV, layK, endV]
theorem eqItem_self (w : World) (a b c : Int) : (Op.equalIn 10000 40 (.agg #[.int .i64 a, .int .u64 b, .int .i64 c]) (.agg #[.int .i64 a, .int .u64 b, .int .i64 c])).run Try.prog w = .ok true w := by
  rw [eqItem]
  simp
set_option maxRecDepth 100000 in
set_option maxHeartbeats 16000000 in
theorem foldTiles_law (A : Option Addr) (l : List T3) (n c : Nat) (hn : n = l.length) (z : Int) (hz : 0 ≤ z ∧ z ≤ 255) (w : World) (h : RK encF 3 w A l) :
    Calls Try.prog 7 #[.int .u8 z, .slice A n c] w fun e w' => e = .returned (.bool true) ∧ Below w.heap.size w w' := by
  have HAW := Lib.hid awake_any
  by_cases hl : n ≤ 60
  · have hli : ¬ (60 : Int) < n := by omega
    obtain ⟨rn, rfl⟩ : ∃ k : Nat, z = k := ⟨z.toNat, by omega⟩
    have hrn : rn ≤ 255 := by omega
    have hcv : IntKind.i64.wrap (rn : Int) = (rn : Int) := IntWalk.i64_in _ (by omega)
    have hgu := guardItem
    have HR := Lib.hid h
    have HT := Lib.hid (fun W h => to_any A l n c hn (by omega) W h)
    obtain ⟨M, hM⟩ : ∃ M, M = (clV rn l).1 := ⟨_, rfl⟩
    have hml : M.length ≤ 60 := by
      have := cl_len rn l n (by omega)
      rw [List.take_of_length_le (by omega), ← hM] at this
      omega
    have hMR : rightB rn 0 M = true := by
      have e := (cl_right rn l n (by omega)).1
      rwa [List.take_of_length_le (by omega), ← hM] at e
    have HC : Hid (∀ W A' c', RK encF 3 W A' l → Calls Try.prog 19 #[.int .i64 rn, .slice A' n c'] W fun e w' => ∃ A2 c2, e = .returned (.slice A2 M.length c2) ∧ RK encF 3 w' A2 M ∧ Below W.heap.size W w') := Lib.hid fun W A' c' h => by
      rw [hM]
      exact clean_any A' l n c' hn (by omega) rn W h
    have HL := Lib.hid (fun A' c' W h => lay_any A' M M.length c' rfl (by omega) rn (by omega) (by omega) hMR W h)
    have HL0 : Hid (∀ W, Calls Try.prog 10 #[.int .i64 rn, .slice none 0 0] W fun e w' => ∃ A' c', e = .returned (.tuple #[.slice A' rn c', .int .i64 0]) ∧ RK encI 3 w' A' (showL 0 rn) ∧ Below W.heap.size W w') := Lib.hid fun W => by
      have := lay_any none [] 0 0 rfl (by omega) rn (by omega) (by omega) rfl W (fun h => absurd rfl h)
      rw [lay_none, Int.toNat_natCast, showL_len] at this
      exact this
    obtain ⟨G, hG⟩ : ∃ G, G = layV rn M := ⟨_, rfl⟩
    have hTile : Tile 0 G rn := by rw [hG]; exact tile_all hMR (by omega)
    have hGl : (G.length : Int) ≤ 255 := by
      have h1 := layV_len hMR (by omega)
      have h2 := cnt_in hMR (by omega) M.length (Nat.le_refl _)
      rw [List.take_length] at h2
      rw [hG]
      omega
    have HE : Hid (n = 0 → G = showL 0 rn) := Lib.hid fun h0 => by
      have : l = [] := List.eq_nil_of_length_eq_zero (by omega)
      rw [hG, hM, this]
      exact lay_none rn
    rw [← hG] at HL
    obtain ⟨t1, t2, t3⟩ := tile_at hTile
    have HT1 := Lib.hid t1
    have HT2 := Lib.hid t2
    have HT3 := Lib.hid t3
    have HTS := Lib.hid (atK_snoc 0 G)
    obtain ⟨q, hq⟩ : ∃ q, q = G.length := ⟨_, rfl⟩
    have HQ := Lib.hid hq
    have hq255 : q ≤ 255 := by omega
    have HF : Hid (∀ (i : Nat), i < rn → ∃ (r : Nat), (n = 0 → r < q) ∧ ∀ W A' c', RK encI 3 W A' G → Calls Try.prog 16 #[.slice A' q c', .int .i64 i] W fun e w' => e = .returned (.tuple #[.int .i64 (if r < q then (r : Int) else 0), .bool (decide (r < q))]) ∧ Below W.heap.size W w') := Lib.hid fun i hi => by
      obtain ⟨r, hr, hlo, hhi⟩ := first_at i G
      refine ⟨r, fun h0 => ?_, fun W A' c' h => ?_⟩
      · have e := HE.out h0
        rcases Nat.lt_or_ge r q with h | h
        · exact h
        · exfalso
          have h1 := hlo i (by rw [hq, e, showL_len] at h; omega)
          rw [e, show_nth 0 rn i hi] at h1
          exact h1 (.inl ⟨rfl, by simp⟩)
      · exact find_any A' G q c' hq (by omega) (fun x hx => by
          obtain ⟨j, hj, e⟩ := List.mem_iff_getElem.1 hx
          have h1 := t1 j hj
          have h2 := (t3 j (by omega)).1
          unfold Nth at h1
          rw [List.getElem?_eq_getElem hj, e] at h1
          simp only [Option.getD_some] at h1
          omega) i r (hq ▸ hr) hlo (fun h => hhi (hq ▸ h)) W h
    rw [← hq] at HL HT2
    generalize M.length = ml at *
    clear h hn hM hMR hG hTile hGl t1 t2 t3 hq HE hz
    go_enter Try.func7, Try.ntmps7
    go_wp2_with (first
      | (go_at_call 8; (with_reducible refine (HAW.out w).mono ?_); rintro e w1 ⟨rfl, hb⟩; have HR1 := Lib.hid (HR.out.past hb); have HB1 := Lib.hid hb; clear hb HR)
      | (go_at_call 9; (with_reducible refine (HT.out w1 HR1.out).mono ?_); rintro e w2 ⟨A2, c2, rfl, hq, hb⟩; have HX2 := Lib.hid hq; have HB2 := Lib.hid (bel0 HB1.out hb); clear hb hq HR1 HB1 HT)
      | (go_at_call 19; (with_reducible refine (HC.out w2 A2 c2 HX2.out).mono ?_); rintro e w3 ⟨A3, c3, rfl, hq, hb⟩; have HX3 := Lib.hid hq; have HB3 := Lib.hid (bel0 HB2.out hb); clear hb hq HB2 HX2 HC)
      | (go_at_call 10; (with_reducible refine (HL.out A3 c3 w3 HX3.out).mono ?_); rintro e w4 ⟨A4, c4, rfl, hq, hb⟩; have HG4 := Lib.hid hq; have HB4 := Lib.hid (bel0 HB3.out hb); clear hb hq HB3 HX3 HL))
    go_loopg [8, 9] q (fun gh s8 s9 wx => ∃ j : Nat, j + gh = q ∧ s9 = .int .i64 j ∧ s8 = .int .i64 (atK 0 G j) ∧ w4 = wx)
    case atStart => exact ⟨0, by omega, rfl, by cases G <;> rfl, rfl⟩
    case round =>
      obtain ⟨j, hj, rfl, rfl, rfl⟩ := hrel
      cases gk with
      | succ gh =>
        have hjq : j < q := by omega
        have hji : (j : Int) < q := by omega
        obtain ⟨bb, off, rfl, hG⟩ := HG4.out.it (fun e => by have := HQ.out; rw [e] at this; simp at this; omega)
        obtain ⟨g0, gA⟩ := hG _ (Below.refl _ _)
        obtain ⟨x0, x1, x2⟩ := gA j (HQ.out ▸ hjq)
        have HN1 := Lib.hid (HTS.out j (HQ.out ▸ hjq))
        have hb0 := HT3.out j (by rw [← HQ.out]; omega)
        have hb1 := HT3.out (j + 1) (by rw [← HQ.out]; omega)
        rw [HT1.out j (HQ.out ▸ hjq)] at x0
        rw [HN1.out] at hb1
        clear hG gA HT1 HT2 HT3 HTS HF
        generalize atK 0 G j = a at *
        generalize (Nth G j).2.2 = hd at *
        obtain ⟨mx, hmx⟩ : ∃ mx, mx = max 1 hd := ⟨_, rfl⟩
        rw [← hmx] at HN1 hb1
        have hq1 : (if (1 : Int) < hd then hd else 1) = mx := by rw [hmx]; split <;> omega
        have hq2 : max 1 hd = mx := hmx.symm
        have hw1 : IntKind.i64.wrap (a + mx) = a + mx := IntWalk.i64_in _ (by omega)
        clear hmx hb0 hb1
        go_wp2
        all_goals (first
          | (exfalso; omega)
          | (go_roundg gh
             case measure => omega
             case rel => exact ⟨j + 1, by omega, by go_num, by rw [HN1.out], rfl⟩))
      | zero =>
        obtain rfl : q = j := by omega
        have e2 : atK 0 G q = rn := HT2.out
        rw [e2]
        clear HT1 HT2 HT3 HTS e2
        go_wp2_with (go_at_call 10; (with_reducible refine (HL0.out w4).mono ?_); rintro e w5 ⟨A5, c5, rfl, hq, hb⟩; have HA5 := Lib.hid hq; have HG5 := Lib.hid (HG4.out.past hb); have HB5 := Lib.hid (bel0 HB4.out hb); clear hb hq HB4 HL0 HG4)
        go_loopg [12, 13, 14] rn (fun gh s12 s13 s14 wx => ∃ i : Nat, i + gh = rn ∧ s12 = .int .i64 i ∧ Hid (Below w5.heap.size w5 wx))
        case atStart => exact ⟨0, by omega, rfl, Lib.hid (Below.refl _ _)⟩
        case round =>
          obtain ⟨i, hi, rfl, HB⟩ := hrel
          cases gk with
          | zero =>
            obtain rfl : rn = i := by omega
            have HZ := Lib.hid (bel0 HB5.out HB.out)
            go_wp2
            go_ret
            exact ⟨rfl, HZ.out⟩
          | succ gi =>
            have hir : i < rn := by omega
            have hii : (i : Int) < rn := by omega
            obtain ⟨bb, off, rfl, hG⟩ := HA5.out.it (fun e => by have := congrArg List.length e; rw [showL_len] at this; simp at this; omega)
            obtain ⟨g0, gA⟩ := hG _ HB.out
            obtain ⟨x0, x1, x2⟩ := gA i (by rw [showL_len]; exact hir)
            rw [show_nth 0 rn i hir] at x0 x1 x2
            simp only [Int.zero_add] at x0 x1 x2
            have hq1 := fun W => eqItem_self W (i : Int) 0 0
            obtain ⟨r, hr0, hF⟩ := HF.out i hir
            have HF1 := Lib.hid (hF wr A4 c4 (HG5.out.past HB.out))
            clear hG gA hF HF
            by_cases hrq : r < q
            · rw [if_pos hrq, decide_eq_true hrq] at HF1
              have hrc : ¬ ((q : Int) ≤ r) := by omega
              clear hr0
              go_wp2_with (go_at_call 16; (with_reducible refine HF1.out.mono ?_); rintro e w7 ⟨rfl, hb⟩; have HB7 := Lib.hid (bel0 HB.out hb); clear hb HF1)
              go_roundg gi
              case measure => omega
              case rel => exact ⟨i + 1, by omega, by go_num, HB7⟩
            · rw [if_neg hrq, decide_eq_false hrq] at HF1
              have hn0 : n ≠ 0 := fun h => hrq (hr0 h)
              have hnb : ((n : Int) == 0) = false := by simpa using hn0
              clear hr0 hn0
              go_wp2_with (go_at_call 16; (with_reducible refine HF1.out.mono ?_); rintro e w7 ⟨rfl, hb⟩; have HB7 := Lib.hid (bel0 HB.out hb); clear hb HF1)
              go_roundg gi
              case measure => omega
              case rel => exact ⟨i + 1, by omega, by go_num, HB7⟩
  · have hli : (60 : Int) < n := by omega
    clear h hn hz
    go_enter Try.func7, Try.ntmps7
    go_wp2_with (go_at_call 8; (with_reducible refine (HAW.out w).mono ?_); rintro e w1 ⟨rfl, hb⟩; have HB1 := Lib.hid hb; clear hb)
    go_ret
    exact ⟨rfl, HB1.out⟩

end Go.Proofs.Ytnnmliblnmijdaa
