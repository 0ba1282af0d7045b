/- The walk of the law CharsLines. -/
import Derived.Test.YtjdpkjdnamfloaaDoorCn
import Derived.Deep.DeepCutAuto
namespace Go.Proofs.YtjdpkjdnamfloaaDoor
open Go.RowKit

def kindZ (x : Int) : Int := if x = 65 ∨ x = 48 then x else 66
theorem nameC_kind (k : UInt8) (s : ByteArray) (hs : s.data.toList = [k]) (x : Int) : nameC k 66 s x = kindZ x := by
  unfold nameC kindZ
  by_cases h : okB x = true
  · rw [if_pos ⟨hs, h⟩]
    rcases of_decide_eq_true h with rfl | rfl | rfl <;> rfl
  · rw [if_neg fun hh => h hh.2, if_neg fun hh => h (decide_eq_true (by omega))]
theorem nameC_off (k j : UInt8) (s : ByteArray) (hs : s.data.toList = [k]) (hkj : k ≠ j) (x : Int) : nameC j 66 s x = 66 := if_neg fun hh => hkj (by
  have := hs.symm.trans hh.1
  simpa using this)
def setI (m j : Nat) (n : Int) : Int := if m = j then n else 66
theorem name_at (m : Nat) (hm : m < 4) (x : Int) (W : World) : Calls Tryd.prog 12 #[.agg #[.int .i64 66, .int .i64 66, .int .i64 66, .int .i64 66, .int .i64 0, .int .i64 0], .string ((ByteArray.mk #[40, 41, 42, 43]).extract m (m + 1)), .int .u8 x] W fun e w' => e = .returned (.agg #[.int .i64 (setI m 0 (kindZ x)), .int .i64 (setI m 1 (kindZ x)), .int .i64 (setI m 2 (kindZ x)), .int .i64 (setI m 3 (kindZ x)), .int .i64 0, .int .i64 0]) ∧ Below W.heap.size W w' := by
  have h := name_any 66 66 66 66 0 0 x ((ByteArray.mk #[40, 41, 42, 43]).extract m (m + 1)) W
  rcases (by omega : m = 0 ∨ m = 1 ∨ m = 2 ∨ m = 3) with rfl | rfl | rfl | rfl
  · rw [nameC_kind 40 _ rfl x, nameC_off 40 41 _ rfl (by decide) x, nameC_off 40 42 _ rfl (by decide) x, nameC_off 40 43 _ rfl (by decide) x] at h
    exact h
  · rw [nameC_off 41 40 _ rfl (by decide) x, nameC_kind 41 _ rfl x, nameC_off 41 42 _ rfl (by decide) x, nameC_off 41 43 _ rfl (by decide) x] at h
    exact h
  · rw [nameC_off 42 40 _ rfl (by decide) x, nameC_off 42 41 _ rfl (by decide) x, nameC_kind 42 _ rfl x, nameC_off 42 43 _ rfl (by decide) x] at h
    exact h
  · rw [nameC_off 43 40 _ rfl (by decide) x, nameC_off 43 41 _ rfl (by decide) x, nameC_off 43 42 _ rfl (by decide) x, nameC_kind 43 _ rfl x] at h
    exact h

/-- A state lies in block g, which the call itself has made. -/
structure BoxAt (w : World) (W : World) (g : Nat) (v0 v1 v2 v3 v4 v5 : Value) : Prop where
  below : Below w.heap.size w W
  new : w.heap.size ≤ g
  lt : g < W.heap.size
  c0 : W.cell? ⟨g, 0, none⟩ = some v0
  c1 : W.cell? ⟨g, 1, none⟩ = some v1
  c2 : W.cell? ⟨g, 2, none⟩ = some v2
  c3 : W.cell? ⟨g, 3, none⟩ = some v3
  c4 : W.cell? ⟨g, 4, none⟩ = some v4
  c5 : W.cell? ⟨g, 5, none⟩ = some v5
  free : ∀ k, W.frozen? ⟨g, k, none⟩ = false
theorem BoxAt.drew {w W : World} {g : Nat} {v0 v1 v2 v3 v4 v5 : Value} (h : BoxAt w W g v0 v1 v2 v3 v4 v5) : BoxAt w W.drew g v0 v1 v2 v3 v4 v5 := ⟨h.below.drew, h.new, h.lt, h.c0, h.c1, h.c2, h.c3, h.c4, h.c5, h.free⟩
theorem box_new {w W : World} {v0 v1 v2 v3 v4 v5 : Value} {t : TypeId} (h : Below w.heap.size w W) : BoxAt w (W.alloc (.cells #[v0, v1, v2, v3, v4, v5] t)) W.heap.size v0 v1 v2 v3 v4 v5 := by
  obtain ⟨a0, a1, a2, a3, a4, a5⟩ := cells6 (Below.refl (W.alloc (.cells #[v0, v1, v2, v3, v4, v5] t)).heap.size (W.alloc (.cells #[v0, v1, v2, v3, v4, v5] t)))
  exact ⟨h.alloc h.size _, h.size, by simp, a0, a1, a2, a3, a4, a5, frozen6 (Below.refl _ _)⟩
theorem box_set {w W : World} {g : Nat} {u0 u1 u2 u3 u4 u5 : Value} (h : BoxAt w W g u0 u1 u2 u3 u4 u5) (v0 v1 v2 v3 v4 v5 : Value) :
    BoxAt w ((((((W.setCell ⟨g, 0, none⟩ v0).setCell ⟨g, 1, none⟩ v1).setCell ⟨g, 2, none⟩ v2).setCell ⟨g, 3, none⟩ v3).setCell ⟨g, 4, none⟩ v4).setCell ⟨g, 5, none⟩ v5) g v0 v1 v2 v3 v4 v5 := by
  have o : ∀ (X : World) (i j : Nat) (v : Value), i ≠ j → (X.setCell ⟨g, i, none⟩ v).cell? ⟨g, j, none⟩ = X.cell? ⟨g, j, none⟩ := fun X i j v hij => World.cell?_setCell_other _ _ _ _ (by first | (simp; done) | (simp; omega))
  have e : ∀ (X : World) (i : Nat) (v u : Value), X.cell? ⟨g, i, none⟩ = some u → (X.setCell ⟨g, i, none⟩ v).cell? ⟨g, i, none⟩ = some v := fun X i v u hu => World.cell?_setCell_same _ _ _ hu
  exact ⟨below_row6 h.below h.new _ _ _ _ _ _, h.new, by simpa using h.lt, (by rw [o _ 5 0 _ (by decide), o _ 4 0 _ (by decide), o _ 3 0 _ (by decide), o _ 2 0 _ (by decide), o _ 1 0 _ (by decide)]; exact e _ 0 _ _ (by exact h.c0)), (by rw [o _ 5 1 _ (by decide), o _ 4 1 _ (by decide), o _ 3 1 _ (by decide), o _ 2 1 _ (by decide)]; exact e _ 1 _ _ (by rw [o _ 0 1 _ (by decide)]; exact h.c1)), (by rw [o _ 5 2 _ (by decide), o _ 4 2 _ (by decide), o _ 3 2 _ (by decide)]; exact e _ 2 _ _ (by rw [o _ 1 2 _ (by decide), o _ 0 2 _ (by decide)]; exact h.c2)), (by rw [o _ 5 3 _ (by decide), o _ 4 3 _ (by decide)]; exact e _ 3 _ _ (by rw [o _ 2 3 _ (by decide), o _ 1 3 _ (by decide), o _ 0 3 _ (by decide)]; exact h.c3)), (by rw [o _ 5 4 _ (by decide)]; exact e _ 4 _ _ (by rw [o _ 3 4 _ (by decide), o _ 2 4 _ (by decide), o _ 1 4 _ (by decide), o _ 0 4 _ (by decide)]; exact h.c4)), (by exact e _ 5 _ _ (by rw [o _ 4 5 _ (by decide), o _ 3 5 _ (by decide), o _ 2 5 _ (by decide), o _ 1 5 _ (by decide), o _ 0 5 _ (by decide)]; exact h.c5)), fun k => by simp [h.free k]⟩
/-- A box that a call has left alone. -/
theorem BoxAt.past {w W W' : World} {g : Nat} {v0 v1 v2 v3 v4 v5 : Value} (h : BoxAt w W g v0 v1 v2 v3 v4 v5) (hb : Below W.heap.size W W') : BoxAt w W' g v0 v1 v2 v3 v4 v5 :=
  have c : ∀ k, W'.cell? ⟨g, k, none⟩ = W.cell? ⟨g, k, none⟩ := fun k => hb.cell (p := ⟨g, k, none⟩) h.lt
  have f : ∀ k, W'.frozen? ⟨g, k, none⟩ = W.frozen? ⟨g, k, none⟩ := fun k => hb.frozen (p := ⟨g, k, none⟩) h.lt
  ⟨bel0 h.below hb, h.new, Nat.lt_of_lt_of_le h.lt hb.size, (c 0).trans h.c0, (c 1).trans h.c1, (c 2).trans h.c2, (c 3).trans h.c3, (c 4).trans h.c4, (c 5).trans h.c5, fun k => (f k).trans (h.free k)⟩

theorem slice_at (m : Nat) (hm : m < 4) (W : World) : (Instr.slice 9 (.string (ByteArray.mk #[40, 41, 42, 43])) (some (.int .i64 m)) (some (.int .i64 ((m : Int) + 1))) none).run Tryd.prog W = .ok (.string ((ByteArray.mk #[40, 41, 42, 43]).extract m (m + 1))) W := by
  rcases (by omega : m = 0 ∨ m = 1 ∨ m = 2 ∨ m = 3) with rfl | rfl | rfl | rfl <;> kernel_rfl

set_option maxRecDepth 100000 in
set_option maxHeartbeats 8000000 in
theorem charsLines_law (k x r : Int) (hk0 : 0 ≤ k) (hk1 : k ≤ 255) (hx0 : 0 ≤ x) (hx1 : x ≤ 255) (w : World) (hT : CT w) :
    Calls Tryd.prog 5 #[.int .u8 k, .int .u8 x, .int .i32 r] w fun e w' => e = .returned (.bool true) ∧ Below w.heap.size w w' := by
  have HA : Hid (∀ W, Below w.heap.size w W → Calls Tryd.prog 11 #[] W fun e w' => e = .returned (.bool true) ∧ Below W.heap.size W w') := Lib.hid fun W hW => awake_any W (hT.below hW)
  have HT := Lib.hid hT
  clear hT
  obtain ⟨m, hm⟩ : ∃ m : Nat, k % 4 = m := ⟨(k % 4).toNat, by omega⟩
  have hm4 : m < 4 := by omega
  have hmi : (m : Int) < 4 := by omega
  have hmi1 : (m : Int) + 1 ≤ 4 := by omega
  have hmi2 : (m : Int) ≤ (m : Int) + 1 := by omega
  have hmn : m + 1 ≤ 4 := by omega
  have HN := Lib.hid (name_at m hm4 x)
  have hsl := slice_at m hm4
  have hwm : IntKind.i64.wrap ((m : Int) + 1) = (m : Int) + 1 := IntWalk.i64_in _ (by omega)
  have HK : Hid (kindZ x = if x = 65 ∨ x = 48 then x else 66) := Lib.hid rfl
  generalize kindZ x = n at *
  go_enter Tryd.func5, Tryd.ntmps5
  go_upto_region 2 with fail
  go_cut [7, 8] (fun s7 s8 wx => ∃ g : Nat, s7 = .int .i64 m ∧ s8 = .pointer (some ⟨g, 0, none⟩) ∧ BoxAt w wx g (.int .i64 (setI m 0 n)) (.int .i64 (setI m 1 n)) (.int .i64 (setI m 2 n)) (.int .i64 (setI m 3 n)) (.int .i64 0) (.int .i64 0))
  case first =>
    go_region_with (first
      | (go_at_call 18; (with_reducible refine (new_any _).mono ?_); rintro e w1 ⟨rfl, hb1⟩; (first | (have hA : Below (w.alloc (.cells #[.int .i64 0, .int .i64 0, .int .i64 0, .int .i64 0, .int .i64 0, .int .i64 0] 24)).heap.size (w.alloc (.cells #[.int .i64 0, .int .i64 0, .int .i64 0, .int .i64 0, .int .i64 0, .int .i64 0] 24)) w1 := belD hb1) | (have hB : Below w.heap.size w w1 := belD hb1)))
      | (go_at_call 12; (with_reducible refine (HN.out _).mono ?_); rintro e w2 ⟨rfl, hb2⟩; (first | (have hbox := (box_new (Below.refl _ w)).past (bel0 hA hb2)) | (have hC : Below (w1.alloc (.cells #[.int .i64 0, .int .i64 0, .int .i64 0, .int .i64 0, .int .i64 0, .int .i64 0] 24)).heap.size (w1.alloc (.cells #[.int .i64 0, .int .i64 0, .int .i64 0, .int .i64 0, .int .i64 0, .int .i64 0] 24)) w2 := hb2; have hbox := (box_new hB).past hC) | (have hN : Below w.heap.size w w2 := bel0 hB hb2)); (try (have n0 := hbox.c0; have n1 := hbox.c1; have n2 := hbox.c2; have n3 := hbox.c3; have n4 := hbox.c4; have n5 := hbox.c5; have hfz := hbox.free; have hzz := hbox.lt))))
    all_goals
      go_wp2_with fail
      go_meet
      first
        | (with_reducible exact ⟨_, rfl, rfl, (box_set hbox _ _ _ _ _ _).drew⟩)
        | (with_reducible exact ⟨_, rfl, rfl, box_set hbox _ _ _ _ _ _⟩)
        | (with_reducible exact ⟨_, rfl, rfl, (box_new hN).drew⟩)
        | (with_reducible exact ⟨_, rfl, rfl, box_new hN⟩)
  case rest =>
    obtain ⟨g, rfl, rfl, hbox⟩ := hcut
    clear hk0 hk1 hm hmi hmi1 hmi2 hmn hsl hwm HN
    have hxx : (x = 65 ∧ n = 65) ∨ (x = 48 ∧ n = 48) ∨ (x ≠ 65 ∧ x ≠ 48 ∧ n = 66) := by
      have := HK.out
      by_cases h1 : x = 65
      · rw [if_pos (.inl h1)] at this; exact .inl ⟨h1, by omega⟩
      by_cases h2 : x = 48
      · rw [if_pos (.inr h2)] at this; exact .inr (.inl ⟨h2, by omega⟩)
      · rw [if_neg (by omega)] at this; exact .inr (.inr ⟨h1, h2, this⟩)
    clear HK
    rcases (by omega : m = 0 ∨ m = 1 ∨ m = 2 ∨ m = 3) with rfl | rfl | rfl | rfl
    · have hb0 : BoxAt w _ g (.int .i64 n) (.int .i64 66) (.int .i64 66) (.int .i64 66) (.int .i64 0) (.int .i64 0) := hbox
      clear hbox
      have HM : Hid (∀ W, Below w.heap.size w W → Calls Tryd.prog 8 #[.agg #[.int .i64 n, .int .i64 66, .int .i64 66, .int .i64 66, .int .i64 0, .int .i64 0], .int .i32 r] W fun e w' => e = .returned (.tuple #[.int .i32 (printZ n r), .agg #[.int .i64 n, .int .i64 66, .int .i64 66, .int .i64 66, .int .i64 0, .int .i64 0]]) ∧ Below W.heap.size W w') := Lib.hid fun W hW => map_any n 66 66 66 0 0 r W (HT.out.below hW)
      have HP : Hid (∀ W, Calls Tryd.prog 20 #[.int .i64 n, .int .i32 r] W fun e w' => e = .returned (.int .i32 (printZ n r)) ∧ Below W.heap.size W w') := Lib.hid fun W => prints_any n r W
      generalize printZ n r = p at *
      have HB0 := Lib.hid hb0.below
      have n0 := hb0.c0
      have n1 := hb0.c1
      have n2 := hb0.c2
      have n3 := hb0.c3
      have n4 := hb0.c4
      have n5 := hb0.c5
      have hfz := hb0.free
      have hzz := hb0.lt
      rw [show ((0 : Nat) : Int) = 0 from rfl]
      rcases hxx with ⟨rfl, rfl⟩ | ⟨rfl, rfl⟩ | ⟨h1, h2, rfl⟩
      · go_wp2_with (first | (go_at_call 8; (with_reducible refine (HM.out _ HB0.out).mono ?_); clear HM; rintro e w5 ⟨rfl, hb5⟩; have HB5 := Lib.hid (bel0 HB0.out hb5)) | (go_at_call 20; (with_reducible refine (HP.out _).mono ?_); clear HP; rintro e w6 ⟨rfl, hb6⟩; have HB6 := Lib.hid (bel1 HB5.out hb6)) | (go_at_call 11; (with_reducible refine (HA.out _ HB6.out).mono ?_); rintro e w7 ⟨rfl, hb7⟩))
        go_ret
        exact ⟨rfl, bel0 HB6.out hb7⟩
      · go_wp2_with (first | (go_at_call 8; (with_reducible refine (HM.out _ HB0.out).mono ?_); clear HM; rintro e w5 ⟨rfl, hb5⟩; have HB5 := Lib.hid (bel0 HB0.out hb5)) | (go_at_call 20; (with_reducible refine (HP.out _).mono ?_); clear HP; rintro e w6 ⟨rfl, hb6⟩; have HB6 := Lib.hid (bel1 HB5.out hb6)) | (go_at_call 11; (with_reducible refine (HA.out _ HB6.out).mono ?_); rintro e w7 ⟨rfl, hb7⟩))
        go_ret
        exact ⟨rfl, bel0 HB6.out hb7⟩
      · have b1 : (x == 65) = false := by simpa using h1
        have b2 : (x == 48) = false := by simpa using h2
        clear h1 h2
        go_wp2_with (first | (go_at_call 8; (with_reducible refine (HM.out _ HB0.out).mono ?_); clear HM; rintro e w5 ⟨rfl, hb5⟩; have HB5 := Lib.hid (bel0 HB0.out hb5)) | (go_at_call 20; (with_reducible refine (HP.out _).mono ?_); clear HP; rintro e w6 ⟨rfl, hb6⟩; have HB6 := Lib.hid (bel1 HB5.out hb6)) | (go_at_call 11; (with_reducible refine (HA.out _ HB6.out).mono ?_); rintro e w7 ⟨rfl, hb7⟩))
        go_ret
        exact ⟨rfl, bel0 HB6.out hb7⟩
    · have hb0 : BoxAt w _ g (.int .i64 66) (.int .i64 n) (.int .i64 66) (.int .i64 66) (.int .i64 0) (.int .i64 0) := hbox
      clear hbox
      have HM : Hid (∀ W, Below w.heap.size w W → Calls Tryd.prog 8 #[.agg #[.int .i64 66, .int .i64 n, .int .i64 66, .int .i64 66, .int .i64 1, .int .i64 0], .int .i32 r] W fun e w' => e = .returned (.tuple #[.int .i32 (printZ n r), .agg #[.int .i64 66, .int .i64 n, .int .i64 66, .int .i64 66, .int .i64 1, .int .i64 0]]) ∧ Below W.heap.size W w') := Lib.hid fun W hW => map_any 66 n 66 66 1 0 r W (HT.out.below hW)
      have HP : Hid (∀ W, Calls Tryd.prog 20 #[.int .i64 n, .int .i32 r] W fun e w' => e = .returned (.int .i32 (printZ n r)) ∧ Below W.heap.size W w') := Lib.hid fun W => prints_any n r W
      have HC : Hid (∀ W, Calls Tryd.prog 14 #[.agg #[.int .i64 66, .int .i64 n, .int .i64 66, .int .i64 66, .int .i64 0, .int .i64 0], .int .u8 14] W fun e w' => e = .returned (.agg #[.int .i64 66, .int .i64 n, .int .i64 66, .int .i64 66, .int .i64 1, .int .i64 0]) ∧ Below W.heap.size W w') := Lib.hid fun W => take_any 66 n 66 66 0 0 14 W
      generalize printZ n r = p at *
      have HB0 := Lib.hid hb0.below
      have n0 := hb0.c0
      have n1 := hb0.c1
      have n2 := hb0.c2
      have n3 := hb0.c3
      have n4 := hb0.c4
      have n5 := hb0.c5
      have hfz := hb0.free
      have hzz := hb0.lt
      rw [show ((1 : Nat) : Int) = 1 from rfl]
      rcases hxx with ⟨rfl, rfl⟩ | ⟨rfl, rfl⟩ | ⟨h1, h2, rfl⟩
      · go_wp2_with (first | (go_at_call 14; (with_reducible refine (HC.out _).mono ?_); clear HC; rintro e w3 ⟨rfl, hb3⟩; have hb4 := hb0.past hb3; have hb4s := box_set hb4 (.int .i64 66) (.int .i64 65) (.int .i64 66) (.int .i64 66) (.int .i64 1) (.int .i64 0); have HB4 := Lib.hid hb4s.below; have m0 := hb4s.c0; have m1 := hb4s.c1; have m2 := hb4s.c2; have m3 := hb4s.c3; have m4 := hb4s.c4; have m5 := hb4s.c5; clear n0 n1 n2 n3 n4 n5 hfz hzz; have n0 := hb4.c0; have n1 := hb4.c1; have n2 := hb4.c2; have n3 := hb4.c3; have n4 := hb4.c4; have n5 := hb4.c5; have hfz := hb4.free; have hzz := hb4.lt) | (go_at_call 8; (with_reducible refine (HM.out _ HB4.out).mono ?_); clear HM; rintro e w5 ⟨rfl, hb5⟩; have HB5 := Lib.hid (bel0 HB4.out hb5)) | (go_at_call 20; (with_reducible refine (HP.out _).mono ?_); clear HP; rintro e w6 ⟨rfl, hb6⟩; have HB6 := Lib.hid (bel1 HB5.out hb6)) | (go_at_call 11; (with_reducible refine (HA.out _ HB6.out).mono ?_); rintro e w7 ⟨rfl, hb7⟩))
        go_ret
        exact ⟨rfl, bel0 HB6.out hb7⟩
      · go_wp2_with (first | (go_at_call 14; (with_reducible refine (HC.out _).mono ?_); clear HC; rintro e w3 ⟨rfl, hb3⟩; have hb4 := hb0.past hb3; have hb4s := box_set hb4 (.int .i64 66) (.int .i64 48) (.int .i64 66) (.int .i64 66) (.int .i64 1) (.int .i64 0); have HB4 := Lib.hid hb4s.below; have m0 := hb4s.c0; have m1 := hb4s.c1; have m2 := hb4s.c2; have m3 := hb4s.c3; have m4 := hb4s.c4; have m5 := hb4s.c5; clear n0 n1 n2 n3 n4 n5 hfz hzz; have n0 := hb4.c0; have n1 := hb4.c1; have n2 := hb4.c2; have n3 := hb4.c3; have n4 := hb4.c4; have n5 := hb4.c5; have hfz := hb4.free; have hzz := hb4.lt) | (go_at_call 8; (with_reducible refine (HM.out _ HB4.out).mono ?_); clear HM; rintro e w5 ⟨rfl, hb5⟩; have HB5 := Lib.hid (bel0 HB4.out hb5)) | (go_at_call 20; (with_reducible refine (HP.out _).mono ?_); clear HP; rintro e w6 ⟨rfl, hb6⟩; have HB6 := Lib.hid (bel1 HB5.out hb6)) | (go_at_call 11; (with_reducible refine (HA.out _ HB6.out).mono ?_); rintro e w7 ⟨rfl, hb7⟩))
        go_ret
        exact ⟨rfl, bel0 HB6.out hb7⟩
      · have b1 : (x == 65) = false := by simpa using h1
        have b2 : (x == 48) = false := by simpa using h2
        clear h1 h2
        go_wp2_with (first | (go_at_call 14; (with_reducible refine (HC.out _).mono ?_); clear HC; rintro e w3 ⟨rfl, hb3⟩; have hb4 := hb0.past hb3; have hb4s := box_set hb4 (.int .i64 66) (.int .i64 66) (.int .i64 66) (.int .i64 66) (.int .i64 1) (.int .i64 0); have HB4 := Lib.hid hb4s.below; have m0 := hb4s.c0; have m1 := hb4s.c1; have m2 := hb4s.c2; have m3 := hb4s.c3; have m4 := hb4s.c4; have m5 := hb4s.c5; clear n0 n1 n2 n3 n4 n5 hfz hzz; have n0 := hb4.c0; have n1 := hb4.c1; have n2 := hb4.c2; have n3 := hb4.c3; have n4 := hb4.c4; have n5 := hb4.c5; have hfz := hb4.free; have hzz := hb4.lt) | (go_at_call 8; (with_reducible refine (HM.out _ HB4.out).mono ?_); clear HM; rintro e w5 ⟨rfl, hb5⟩; have HB5 := Lib.hid (bel0 HB4.out hb5)) | (go_at_call 20; (with_reducible refine (HP.out _).mono ?_); clear HP; rintro e w6 ⟨rfl, hb6⟩; have HB6 := Lib.hid (bel1 HB5.out hb6)) | (go_at_call 11; (with_reducible refine (HA.out _ HB6.out).mono ?_); rintro e w7 ⟨rfl, hb7⟩))
        go_ret
        exact ⟨rfl, bel0 HB6.out hb7⟩
    · have hb0 : BoxAt w _ g (.int .i64 66) (.int .i64 66) (.int .i64 n) (.int .i64 66) (.int .i64 0) (.int .i64 0) := hbox
      clear hbox
      have HM : Hid (∀ W, Below w.heap.size w W → Calls Tryd.prog 8 #[.agg #[.int .i64 66, .int .i64 66, .int .i64 n, .int .i64 66, .int .i64 2, .int .i64 0], .int .i32 r] W fun e w' => e = .returned (.tuple #[.int .i32 (printZ n r), .agg #[.int .i64 66, .int .i64 66, .int .i64 n, .int .i64 66, .int .i64 2, .int .i64 0]]) ∧ Below W.heap.size W w') := Lib.hid fun W hW => map_any 66 66 n 66 2 0 r W (HT.out.below hW)
      have HP : Hid (∀ W, Calls Tryd.prog 20 #[.int .i64 n, .int .i32 r] W fun e w' => e = .returned (.int .i32 (printZ n r)) ∧ Below W.heap.size W w') := Lib.hid fun W => prints_any n r W
      have HC : Hid (∀ W, Calls Tryd.prog 16 #[.agg #[.int .i64 66, .int .i64 66, .int .i64 n, .int .i64 66, .int .i64 0, .int .i64 0], .int .u8 110] W fun e w' => e = .returned (.agg #[.int .i64 66, .int .i64 66, .int .i64 n, .int .i64 66, .int .i64 2, .int .i64 0]) ∧ Below W.heap.size W w') := Lib.hid fun W => lock_any 66 66 n 66 0 0 110 W
      generalize printZ n r = p at *
      have HB0 := Lib.hid hb0.below
      have n0 := hb0.c0
      have n1 := hb0.c1
      have n2 := hb0.c2
      have n3 := hb0.c3
      have n4 := hb0.c4
      have n5 := hb0.c5
      have hfz := hb0.free
      have hzz := hb0.lt
      rw [show ((2 : Nat) : Int) = 2 from rfl]
      rcases hxx with ⟨rfl, rfl⟩ | ⟨rfl, rfl⟩ | ⟨h1, h2, rfl⟩
      · go_wp2_with (first | (go_at_call 16; (with_reducible refine (HC.out _).mono ?_); clear HC; rintro e w3 ⟨rfl, hb3⟩; have hb4 := hb0.past hb3; have hb4s := box_set hb4 (.int .i64 66) (.int .i64 66) (.int .i64 65) (.int .i64 66) (.int .i64 2) (.int .i64 0); have HB4 := Lib.hid hb4s.below; have m0 := hb4s.c0; have m1 := hb4s.c1; have m2 := hb4s.c2; have m3 := hb4s.c3; have m4 := hb4s.c4; have m5 := hb4s.c5; clear n0 n1 n2 n3 n4 n5 hfz hzz; have n0 := hb4.c0; have n1 := hb4.c1; have n2 := hb4.c2; have n3 := hb4.c3; have n4 := hb4.c4; have n5 := hb4.c5; have hfz := hb4.free; have hzz := hb4.lt) | (go_at_call 8; (with_reducible refine (HM.out _ HB4.out).mono ?_); clear HM; rintro e w5 ⟨rfl, hb5⟩; have HB5 := Lib.hid (bel0 HB4.out hb5)) | (go_at_call 20; (with_reducible refine (HP.out _).mono ?_); clear HP; rintro e w6 ⟨rfl, hb6⟩; have HB6 := Lib.hid (bel1 HB5.out hb6)) | (go_at_call 11; (with_reducible refine (HA.out _ HB6.out).mono ?_); rintro e w7 ⟨rfl, hb7⟩))
        go_ret
        exact ⟨rfl, bel0 HB6.out hb7⟩
      · go_wp2_with (first | (go_at_call 16; (with_reducible refine (HC.out _).mono ?_); clear HC; rintro e w3 ⟨rfl, hb3⟩; have hb4 := hb0.past hb3; have hb4s := box_set hb4 (.int .i64 66) (.int .i64 66) (.int .i64 48) (.int .i64 66) (.int .i64 2) (.int .i64 0); have HB4 := Lib.hid hb4s.below; have m0 := hb4s.c0; have m1 := hb4s.c1; have m2 := hb4s.c2; have m3 := hb4s.c3; have m4 := hb4s.c4; have m5 := hb4s.c5; clear n0 n1 n2 n3 n4 n5 hfz hzz; have n0 := hb4.c0; have n1 := hb4.c1; have n2 := hb4.c2; have n3 := hb4.c3; have n4 := hb4.c4; have n5 := hb4.c5; have hfz := hb4.free; have hzz := hb4.lt) | (go_at_call 8; (with_reducible refine (HM.out _ HB4.out).mono ?_); clear HM; rintro e w5 ⟨rfl, hb5⟩; have HB5 := Lib.hid (bel0 HB4.out hb5)) | (go_at_call 20; (with_reducible refine (HP.out _).mono ?_); clear HP; rintro e w6 ⟨rfl, hb6⟩; have HB6 := Lib.hid (bel1 HB5.out hb6)) | (go_at_call 11; (with_reducible refine (HA.out _ HB6.out).mono ?_); rintro e w7 ⟨rfl, hb7⟩))
        go_ret
        exact ⟨rfl, bel0 HB6.out hb7⟩
      · have b1 : (x == 65) = false := by simpa using h1
        have b2 : (x == 48) = false := by simpa using h2
        clear h1 h2
        go_wp2_with (first | (go_at_call 16; (with_reducible refine (HC.out _).mono ?_); clear HC; rintro e w3 ⟨rfl, hb3⟩; have hb4 := hb0.past hb3; have hb4s := box_set hb4 (.int .i64 66) (.int .i64 66) (.int .i64 66) (.int .i64 66) (.int .i64 2) (.int .i64 0); have HB4 := Lib.hid hb4s.below; have m0 := hb4s.c0; have m1 := hb4s.c1; have m2 := hb4s.c2; have m3 := hb4s.c3; have m4 := hb4s.c4; have m5 := hb4s.c5; clear n0 n1 n2 n3 n4 n5 hfz hzz; have n0 := hb4.c0; have n1 := hb4.c1; have n2 := hb4.c2; have n3 := hb4.c3; have n4 := hb4.c4; have n5 := hb4.c5; have hfz := hb4.free; have hzz := hb4.lt) | (go_at_call 8; (with_reducible refine (HM.out _ HB4.out).mono ?_); clear HM; rintro e w5 ⟨rfl, hb5⟩; have HB5 := Lib.hid (bel0 HB4.out hb5)) | (go_at_call 20; (with_reducible refine (HP.out _).mono ?_); clear HP; rintro e w6 ⟨rfl, hb6⟩; have HB6 := Lib.hid (bel1 HB5.out hb6)) | (go_at_call 11; (with_reducible refine (HA.out _ HB6.out).mono ?_); rintro e w7 ⟨rfl, hb7⟩))
        go_ret
        exact ⟨rfl, bel0 HB6.out hb7⟩
    · have hb0 : BoxAt w _ g (.int .i64 66) (.int .i64 66) (.int .i64 66) (.int .i64 n) (.int .i64 0) (.int .i64 0) := hbox
      clear hbox
      have HM : Hid (∀ W, Below w.heap.size w W → Calls Tryd.prog 8 #[.agg #[.int .i64 66, .int .i64 66, .int .i64 66, .int .i64 n, .int .i64 3, .int .i64 0], .int .i32 r] W fun e w' => e = .returned (.tuple #[.int .i32 (printZ n r), .agg #[.int .i64 66, .int .i64 66, .int .i64 66, .int .i64 n, .int .i64 3, .int .i64 0]]) ∧ Below W.heap.size W w') := Lib.hid fun W hW => map_any 66 66 66 n 3 0 r W (HT.out.below hW)
      have HP : Hid (∀ W, Calls Tryd.prog 20 #[.int .i64 n, .int .i32 r] W fun e w' => e = .returned (.int .i32 (printZ n r)) ∧ Below W.heap.size W w') := Lib.hid fun W => prints_any n r W
      have HC : Hid (∀ W, Calls Tryd.prog 16 #[.agg #[.int .i64 66, .int .i64 66, .int .i64 66, .int .i64 n, .int .i64 0, .int .i64 0], .int .u8 111] W fun e w' => e = .returned (.agg #[.int .i64 66, .int .i64 66, .int .i64 66, .int .i64 n, .int .i64 3, .int .i64 0]) ∧ Below W.heap.size W w') := Lib.hid fun W => lock_any 66 66 66 n 0 0 111 W
      generalize printZ n r = p at *
      have HB0 := Lib.hid hb0.below
      have n0 := hb0.c0
      have n1 := hb0.c1
      have n2 := hb0.c2
      have n3 := hb0.c3
      have n4 := hb0.c4
      have n5 := hb0.c5
      have hfz := hb0.free
      have hzz := hb0.lt
      rw [show ((3 : Nat) : Int) = 3 from rfl]
      rcases hxx with ⟨rfl, rfl⟩ | ⟨rfl, rfl⟩ | ⟨h1, h2, rfl⟩
      · go_wp2_with (first | (go_at_call 16; (with_reducible refine (HC.out _).mono ?_); clear HC; rintro e w3 ⟨rfl, hb3⟩; have hb4 := hb0.past hb3; have hb4s := box_set hb4 (.int .i64 66) (.int .i64 66) (.int .i64 66) (.int .i64 65) (.int .i64 3) (.int .i64 0); have HB4 := Lib.hid hb4s.below; have m0 := hb4s.c0; have m1 := hb4s.c1; have m2 := hb4s.c2; have m3 := hb4s.c3; have m4 := hb4s.c4; have m5 := hb4s.c5; clear n0 n1 n2 n3 n4 n5 hfz hzz; have n0 := hb4.c0; have n1 := hb4.c1; have n2 := hb4.c2; have n3 := hb4.c3; have n4 := hb4.c4; have n5 := hb4.c5; have hfz := hb4.free; have hzz := hb4.lt) | (go_at_call 8; (with_reducible refine (HM.out _ HB4.out).mono ?_); clear HM; rintro e w5 ⟨rfl, hb5⟩; have HB5 := Lib.hid (bel0 HB4.out hb5)) | (go_at_call 20; (with_reducible refine (HP.out _).mono ?_); clear HP; rintro e w6 ⟨rfl, hb6⟩; have HB6 := Lib.hid (bel1 HB5.out hb6)) | (go_at_call 11; (with_reducible refine (HA.out _ HB6.out).mono ?_); rintro e w7 ⟨rfl, hb7⟩))
        go_ret
        exact ⟨rfl, bel0 HB6.out hb7⟩
      · go_wp2_with (first | (go_at_call 16; (with_reducible refine (HC.out _).mono ?_); clear HC; rintro e w3 ⟨rfl, hb3⟩; have hb4 := hb0.past hb3; have hb4s := box_set hb4 (.int .i64 66) (.int .i64 66) (.int .i64 66) (.int .i64 48) (.int .i64 3) (.int .i64 0); have HB4 := Lib.hid hb4s.below; have m0 := hb4s.c0; have m1 := hb4s.c1; have m2 := hb4s.c2; have m3 := hb4s.c3; have m4 := hb4s.c4; have m5 := hb4s.c5; clear n0 n1 n2 n3 n4 n5 hfz hzz; have n0 := hb4.c0; have n1 := hb4.c1; have n2 := hb4.c2; have n3 := hb4.c3; have n4 := hb4.c4; have n5 := hb4.c5; have hfz := hb4.free; have hzz := hb4.lt) | (go_at_call 8; (with_reducible refine (HM.out _ HB4.out).mono ?_); clear HM; rintro e w5 ⟨rfl, hb5⟩; have HB5 := Lib.hid (bel0 HB4.out hb5)) | (go_at_call 20; (with_reducible refine (HP.out _).mono ?_); clear HP; rintro e w6 ⟨rfl, hb6⟩; have HB6 := Lib.hid (bel1 HB5.out hb6)) | (go_at_call 11; (with_reducible refine (HA.out _ HB6.out).mono ?_); rintro e w7 ⟨rfl, hb7⟩))
        go_ret
        exact ⟨rfl, bel0 HB6.out hb7⟩
      · have b1 : (x == 65) = false := by simpa using h1
        have b2 : (x == 48) = false := by simpa using h2
        clear h1 h2
        go_wp2_with (first | (go_at_call 16; (with_reducible refine (HC.out _).mono ?_); clear HC; rintro e w3 ⟨rfl, hb3⟩; have hb4 := hb0.past hb3; have hb4s := box_set hb4 (.int .i64 66) (.int .i64 66) (.int .i64 66) (.int .i64 66) (.int .i64 3) (.int .i64 0); have HB4 := Lib.hid hb4s.below; have m0 := hb4s.c0; have m1 := hb4s.c1; have m2 := hb4s.c2; have m3 := hb4s.c3; have m4 := hb4s.c4; have m5 := hb4s.c5; clear n0 n1 n2 n3 n4 n5 hfz hzz; have n0 := hb4.c0; have n1 := hb4.c1; have n2 := hb4.c2; have n3 := hb4.c3; have n4 := hb4.c4; have n5 := hb4.c5; have hfz := hb4.free; have hzz := hb4.lt) | (go_at_call 8; (with_reducible refine (HM.out _ HB4.out).mono ?_); clear HM; rintro e w5 ⟨rfl, hb5⟩; have HB5 := Lib.hid (bel0 HB4.out hb5)) | (go_at_call 20; (with_reducible refine (HP.out _).mono ?_); clear HP; rintro e w6 ⟨rfl, hb6⟩; have HB6 := Lib.hid (bel1 HB5.out hb6)) | (go_at_call 11; (with_reducible refine (HA.out _ HB6.out).mono ?_); rintro e w7 ⟨rfl, hb7⟩))
        go_ret
        exact ⟨rfl, bel0 HB6.out hb7⟩

end Go.Proofs.YtjdpkjdnamfloaaDoor
