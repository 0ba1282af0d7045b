/- The walks of Primary, Secondary, Fine, Cursor, Size, and of the document's Cursor, Size; awake; the law ReplyPlaces. -/
import Derived.Test.YtlolbfbkoimjkaaDoorJa
namespace Go.Proofs.YtlolbfbkoimjkaaDoor
open Go.RowKit

theorem itoa_21 (z : Int) (h0 : 0 ≤ z) (h1 : z ≤ 65535) : (Lib.itoa z).length ≤ 21 := Lib.itoa_length_le z (by omega) (by omega)
theorem digitsI (z : Int) (h0 : 0 ≤ z) (h1 : z ≤ 65535) (w : World) : Calls Tryd.prog 20 #[.int .i64 z] w fun e w' => e = .returned (.string (bsB (Lib.itoa z))) ∧ Below w.heap.size w w' := by
  obtain ⟨m, rfl⟩ := Int.eq_ofNat_of_zero_le h0
  have h := digits_any m (by omega) w
  rwa [show Lib.decDigits m = Lib.itoa (m : Int) from by rw [Lib.itoa, if_neg (by omega), Int.toNat_natCast]] at h
theorem ri_lit (W : World) (xs : List Int) : RI (W.alloc (.cells (xs.map (Value.int .i64)).toArray 3)) (W.alloc (.cells (xs.map (Value.int .i64)).toArray 3)).heap.size (some ⟨W.heap.size, 0, none⟩) xs := fun _ => ⟨W.heap.size, 0, rfl, by simp, fun k hk => by
  rw [Nat.zero_add, cell_of_row _ _ k _ _ _ (heap_alloc_new W _)]
  simp [hk]⟩
theorem numbers_lit (xs : List Int) (h1 : xs.length ≤ 100) (W : World) (hT : T10 W.heap.size W) :
    Calls Tryd.prog 18 #[.slice (some ⟨W.heap.size, 0, none⟩) xs.length xs.length] (W.alloc (.cells (xs.map (Value.int .i64)).toArray 3)) fun e w' => e = .returned (.string (bsB (textT (cleanL (oneL xs))))) ∧ Below W.heap.size W w' :=
  (numbers_any _ xs _ _ rfl h1 _ (ri_lit W xs) (hT.on (belA (Below.refl _ _) _) (by simp))).mono fun _ _ ⟨h, hb⟩ => ⟨h, bel1 (Below.refl _ _) hb⟩
theorem numbers1 (a : Int) (h0 : 0 ≤ a) (h1 : a ≤ 65535) (W : World) (hT : T10 W.heap.size W) :
    Calls Tryd.prog 18 #[.slice (some ⟨W.heap.size, 0, none⟩) 1 1] (W.alloc (.cells #[.int .i64 a] 3)) fun e w' => e = .returned (.string (bsB (Lib.itoa a))) ∧ Below W.heap.size W w' := by
  have h := numbers_lit [a] (by simp) W hT
  rwa [nums_one a h0 h1] at h
theorem numbers2 (a b : Int) (h0 : 0 ≤ a) (h1 : a ≤ 65535) (h2 : 0 ≤ b) (h3 : b ≤ 65535) (W : World) (hT : T10 W.heap.size W) :
    Calls Tryd.prog 18 #[.slice (some ⟨W.heap.size, 0, none⟩) 2 2] (W.alloc (.cells #[.int .i64 a, .int .i64 b] 3)) fun e w' => e = .returned (.string (bsB (Lib.itoa a ++ [59] ++ Lib.itoa b))) ∧ Below W.heap.size W w' := by
  have h := numbers_lit [a, b] (by simp) W hT
  rwa [nums_two a b h0 h1 h2 h3] at h
theorem numbers3 (a b c : Int) (h0 : 0 ≤ a) (h1 : a ≤ 65535) (h2 : 0 ≤ b) (h3 : b ≤ 65535) (h4 : 0 ≤ c) (h5 : c ≤ 65535) (W : World) (hT : T10 W.heap.size W) :
    Calls Tryd.prog 18 #[.slice (some ⟨W.heap.size, 0, none⟩) 3 3] (W.alloc (.cells #[.int .i64 a, .int .i64 b, .int .i64 c] 3)) fun e w' => e = .returned (.string (bsB (Lib.itoa a ++ [59] ++ Lib.itoa b ++ [59] ++ Lib.itoa c))) ∧ Below W.heap.size W w' := by
  have h := numbers_lit [a, b, c] (by simp) W hT
  rwa [nums_three a b c h0 h1 h2 h3 h4 h5] at h

/-- What is told of a cursor, and of a size. -/
def curT (y x : Int) (p : Bool) : List UInt8 := [27, 91] ++ (if p then [63] else []) ++ (Lib.itoa (sideZ y + 1) ++ [59] ++ Lib.itoa (sideZ x + 1)) ++ [82]
def sizeT (r c : Int) : List UInt8 := [27, 91] ++ (Lib.itoa 8 ++ [59] ++ Lib.itoa (sideZ r) ++ [59] ++ Lib.itoa (sideZ c)) ++ [116]
set_option maxRecDepth 100000 in
set_option maxHeartbeats 4000000 in
theorem cursor_any (y x : Int) (p : Bool) (w : World) (hT : T10 w.heap.size w) :
    Calls Tryd.prog 8 #[.int .i64 y, .int .i64 x, .bool p] w fun e w' => e = .returned (.string (bsB (curT y x p))) ∧ Below w.heap.size w w' := by
  obtain ⟨y0, y1⟩ := sideZ_bd y
  obtain ⟨x0, x1⟩ := sideZ_bd x
  have H1 := Lib.hid (counted_any y)
  have H2 := Lib.hid (counted_any x)
  have H3 := Lib.hid (numbers2 (sideZ y + 1) (sideZ x + 1) (by omega) (by omega) (by omega) (by omega) w hT)
  have hs : (bsB (Lib.itoa (sideZ y + 1) ++ [59] ++ Lib.itoa (sideZ x + 1))).size ≤ 43 := by
    have := itoa_21 (sideZ y + 1) (by omega) (by omega)
    have := itoa_21 (sideZ x + 1) (by omega) (by omega)
    rw [bsB_size]
    simp
    omega
  have HR : Hid ((⟨#[27, 91]⟩ : ByteArray) ++ (if p then ⟨#[63]⟩ else ⟨#[]⟩ : ByteArray) ++ bsB (Lib.itoa (sideZ y + 1) ++ [59] ++ Lib.itoa (sideZ x + 1)) ++ (⟨#[82]⟩ : ByteArray) = bsB (curT y x p)) := Lib.hid (by
    apply ByteArray.ext
    cases p <;> simp [bsB, curT])
  clear y0 y1 x0 x1 hT
  generalize bsB (Lib.itoa (sideZ y + 1) ++ [59] ++ Lib.itoa (sideZ x + 1)) = s at *
  generalize sideZ y + 1 = a at *
  generalize sideZ x + 1 = b at *
  cases p with
  | true =>
    rw [if_pos rfl] at HR
    go_enter Tryd.func8, Tryd.ntmps8
    go_wp2_with (first
      | (go_at_call 19; (with_reducible refine (H1.out _).mono ?_); rintro e w1 ⟨rfl, rfl⟩)
      | (go_at_call 19; (with_reducible refine (H2.out _).mono ?_); rintro e w2 ⟨rfl, rfl⟩)
      | (go_at_call 18; (with_reducible refine (H3.out).mono ?_); rintro e w3 ⟨rfl, hb⟩; have HB3 := Lib.hid hb; clear hb))
    go_ret
    exact ⟨by rw [← HR.out]; rfl, HB3.out⟩
  | false =>
    rw [if_neg (by decide)] at HR
    go_enter Tryd.func8, Tryd.ntmps8
    go_wp2_with (first
      | (go_at_call 19; (with_reducible refine (H1.out _).mono ?_); rintro e w1 ⟨rfl, rfl⟩)
      | (go_at_call 19; (with_reducible refine (H2.out _).mono ?_); rintro e w2 ⟨rfl, rfl⟩)
      | (go_at_call 18; (with_reducible refine (H3.out).mono ?_); rintro e w3 ⟨rfl, hb⟩; have HB3 := Lib.hid hb; clear hb))
    go_ret
    exact ⟨by rw [← HR.out]; rfl, HB3.out⟩
set_option maxRecDepth 100000 in
set_option maxHeartbeats 4000000 in
theorem size_any (r c : Int) (w : World) (hT : T10 w.heap.size w) :
    Calls Tryd.prog 10 #[.int .i64 r, .int .i64 c] w fun e w' => e = .returned (.string (bsB (sizeT r c))) ∧ Below w.heap.size w w' := by
  obtain ⟨y0, y1⟩ := sideZ_bd r
  obtain ⟨x0, x1⟩ := sideZ_bd c
  have H1 := Lib.hid (side_any r)
  have H2 := Lib.hid (side_any c)
  have H3 := Lib.hid (numbers3 8 (sideZ r) (sideZ c) (by omega) (by omega) (by omega) (by omega) (by omega) (by omega) w hT)
  have hs : (bsB (Lib.itoa 8 ++ [59] ++ Lib.itoa (sideZ r) ++ [59] ++ Lib.itoa (sideZ c))).size ≤ 65 := by
    have := itoa_21 8 (by omega) (by omega)
    have := itoa_21 (sideZ r) (by omega) (by omega)
    have := itoa_21 (sideZ c) (by omega) (by omega)
    rw [bsB_size]
    simp
    omega
  have HR : Hid ((⟨#[27, 91]⟩ : ByteArray) ++ bsB (Lib.itoa 8 ++ [59] ++ Lib.itoa (sideZ r) ++ [59] ++ Lib.itoa (sideZ c)) ++ (⟨#[116]⟩ : ByteArray) = bsB (sizeT r c)) := Lib.hid (by
    apply ByteArray.ext
    simp [bsB, sizeT])
  clear y0 y1 x0 x1 hT
  generalize bsB (Lib.itoa 8 ++ [59] ++ Lib.itoa (sideZ r) ++ [59] ++ Lib.itoa (sideZ c)) = s at *
  generalize sideZ r = a at *
  generalize sideZ c = b at *
  go_enter Tryd.func10, Tryd.ntmps10
  go_wp2_with (first
    | (go_at_call 22; (with_reducible refine (H1.out _).mono ?_); rintro e w1 ⟨rfl, rfl⟩)
    | (go_at_call 22; (with_reducible refine (H2.out _).mono ?_); rintro e w2 ⟨rfl, rfl⟩)
    | (go_at_call 18; (with_reducible refine (H3.out).mono ?_); rintro e w3 ⟨rfl, hb⟩; have HB3 := Lib.hid hb; clear hb))
  go_ret
  exact ⟨by rw [← HR.out]; rfl, HB3.out⟩
set_option maxRecDepth 100000 in
set_option maxHeartbeats 4000000 in
theorem primary_any (w : World) (hT : T10 w.heap.size w) :
    Calls Tryd.prog 23 #[] w fun e w' => e = .returned (.string ⟨#[27, 91, 63, 54, 50, 59, 50, 50, 99]⟩) ∧ Below w.heap.size w w' := by
  have H3 : Hid (Calls Tryd.prog 18 #[.slice (some ⟨w.heap.size, 0, none⟩) 2 2] (w.alloc (.cells #[.int .i64 62, .int .i64 22] 3)) fun e w' => e = .returned (.string ⟨#[54, 50, 59, 50, 50]⟩) ∧ Below w.heap.size w w') := Lib.hid (by
    have h := numbers2 62 22 (by omega) (by omega) (by omega) (by omega) w hT
    rwa [show bsB (Lib.itoa 62 ++ [59] ++ Lib.itoa 22) = ⟨#[54, 50, 59, 50, 50]⟩ by simp [bsB, Lib.itoa, Lib.decDigits]] at h)
  clear hT
  go_enter Tryd.func23, Tryd.ntmps23
  go_wp2_with (go_at_call 18; (with_reducible refine (H3.out).mono ?_); rintro e w3 ⟨rfl, hb⟩; have HB3 := Lib.hid hb; clear hb)
  go_ret
  exact ⟨rfl, HB3.out⟩
set_option maxRecDepth 100000 in
set_option maxHeartbeats 4000000 in
theorem secondary_any (w : World) (hT : T10 w.heap.size w) :
    Calls Tryd.prog 24 #[] w fun e w' => e = .returned (.string ⟨#[27, 91, 62, 49, 59, 49, 48, 59, 48, 99]⟩) ∧ Below w.heap.size w w' := by
  have H3 : Hid (Calls Tryd.prog 18 #[.slice (some ⟨w.heap.size, 0, none⟩) 3 3] (w.alloc (.cells #[.int .i64 1, .int .i64 10, .int .i64 0] 3)) fun e w' => e = .returned (.string ⟨#[49, 59, 49, 48, 59, 48]⟩) ∧ Below w.heap.size w w') := Lib.hid (by
    have h := numbers3 1 10 0 (by omega) (by omega) (by omega) (by omega) (by omega) (by omega) w hT
    rwa [show bsB (Lib.itoa 1 ++ [59] ++ Lib.itoa 10 ++ [59] ++ Lib.itoa 0) = ⟨#[49, 59, 49, 48, 59, 48]⟩ by simp [bsB, Lib.itoa, Lib.decDigits]] at h)
  clear hT
  go_enter Tryd.func24, Tryd.ntmps24
  go_wp2_with (go_at_call 18; (with_reducible refine (H3.out).mono ?_); rintro e w3 ⟨rfl, hb⟩; have HB3 := Lib.hid hb; clear hb)
  go_ret
  exact ⟨rfl, HB3.out⟩
set_option maxRecDepth 100000 in
set_option maxHeartbeats 4000000 in
theorem fine_any (w : World) (hT : T10 w.heap.size w) :
    Calls Tryd.prog 25 #[] w fun e w' => e = .returned (.string ⟨#[27, 91, 48, 110]⟩) ∧ Below w.heap.size w w' := by
  have H3 : Hid (Calls Tryd.prog 18 #[.slice (some ⟨w.heap.size, 0, none⟩) 1 1] (w.alloc (.cells #[.int .i64 0] 3)) fun e w' => e = .returned (.string ⟨#[48]⟩) ∧ Below w.heap.size w w') := Lib.hid (by
    have h := numbers1 0 (by omega) (by omega) w hT
    rwa [show bsB (Lib.itoa 0) = ⟨#[48]⟩ by simp [bsB, Lib.itoa, Lib.decDigits]] at h)
  clear hT
  go_enter Tryd.func25, Tryd.ntmps25
  go_wp2_with (go_at_call 18; (with_reducible refine (H3.out).mono ?_); rintro e w3 ⟨rfl, hb⟩; have HB3 := Lib.hid hb; clear hb)
  go_ret
  exact ⟨rfl, HB3.out⟩
theorem cur04 : bsB (curT 0 4 false) = ⟨#[27, 91, 49, 59, 53, 82]⟩ := by
  have e0 : sideZ 0 + 1 = 1 := by decide
  have e4 : sideZ 4 + 1 = 5 := by decide
  rw [curT, e0, e4]
  simp [bsB, Lib.itoa, Lib.decDigits]
set_option maxRecDepth 100000 in
set_option maxHeartbeats 4000000 in
theorem awake_any (w : World) (hT : T10 w.heap.size w) : Calls Tryd.prog 12 #[] w fun e w' => e = .returned (.bool true) ∧ Below w.heap.size w w' := by
  have H1 : Hid (Calls Tryd.prog 8 #[.int .i64 0, .int .i64 4, .bool false] w fun e w' => e = .returned (.string ⟨#[27, 91, 49, 59, 53, 82]⟩) ∧ Below w.heap.size w w') := Lib.hid (by
    have h := cursor_any 0 4 false w hT
    rwa [cur04] at h)
  have HT := Lib.hid hT
  clear hT
  go_enter Tryd.func12, Tryd.ntmps12
  go_wp2_with (first
    | (go_at_call 8; (with_reducible refine (H1.out).mono ?_); rintro e w1 ⟨rfl, hb⟩; have HB1 := Lib.hid hb; clear hb)
    | (go_at_call 23; (with_reducible refine (primary_any _ (HT.out.on HB1.out HB1.out.size)).mono ?_); rintro e w2 ⟨rfl, hb⟩; have HB2 := Lib.hid (bel0 HB1.out hb); clear hb)
    | (go_at_call 24; (with_reducible refine (secondary_any _ (HT.out.on HB2.out HB2.out.size)).mono ?_); rintro e w3 ⟨rfl, hb⟩; have HB3 := Lib.hid (bel0 HB2.out hb); clear hb)
    | (go_at_call 25; (with_reducible refine (fine_any _ (HT.out.on HB3.out HB3.out.size)).mono ?_); rintro e w4 ⟨rfl, hb⟩; have HB4 := Lib.hid (bel0 HB3.out hb); clear hb))
  go_ret
  exact ⟨rfl, HB4.out⟩
end Go.Proofs.YtlolbfbkoimjkaaDoor
