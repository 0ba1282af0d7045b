/- The walks of Setting and of the document's Setting. -/
import Derived.Test.YtlolbfbkoimjkaaDoorBh
import Derived.Test.YtlolbfbkoimjkaaDoorBj
import Derived.Test.YtlolbfbkoimjkaaDoorJc
namespace Go.Proofs.YtlolbfbkoimjkaaDoor
open Go.RowKit

set_option maxRecDepth 100000 in
theorem flagNums_mem (f : Int) (k : Nat) : (∀ z ∈ flagNums f k, 1 ≤ z ∧ z ≤ 55) ∧ (flagNums f k).length ≤ 18 := by
  unfold flagNums
  refine ⟨fun z hz => ?_, ?_⟩
  · obtain ⟨r, hr, rfl⟩ := List.mem_map.1 hz
    have h1 := (List.mem_filter.1 hr).1
    have h2 := List.mem_of_mem_take h1
    have h3 : ∀ r ∈ turnsL, 1 ≤ r.1 ∧ r.1 ≤ 55 := by decide
    exact h3 r h2
  · have h1 := List.length_filter_le (fun r => bits .and .i64 f r.2.1 != 0) (turnsL.take k)
    have h2 : (turnsL.take k).length ≤ 18 := by rw [List.length_take]; exact Nat.min_le_right _ _
    simp only [List.length_map]
    omega
set_option maxRecDepth 100000 in
theorem numsR_mem (a : AT) (h1 : colorB a.fk a.fn = true) (h2 : colorB a.bk a.bn = true) : (∀ z ∈ numsP a, 0 ≤ z ∧ z ≤ 255) ∧ (numsP a).length ≤ 32 := by
  obtain ⟨a1, a2⟩ := flagNums_mem a.fl 18
  obtain ⟨b1, b2⟩ := colNums_range 38 a.fk a.fn (by decide) h1
  obtain ⟨c1, c2⟩ := colNums_range 48 a.bk a.bn (by decide) h2
  unfold numsP
  refine ⟨fun z hz => ?_, ?_⟩
  · rcases List.mem_cons.1 hz with e | hz
    · omega
    · rcases List.mem_append.1 hz with hz | hz
      · rcases List.mem_append.1 hz with hz | hz
        · have := a1 z hz; omega
        · exact b1 z hz
      · exact c1 z hz
  · simp only [List.length_cons, List.length_append]
    omega

set_option maxRecDepth 100000 in
theorem right_parts {a : AT} (h : rightB a.fk a.fn a.bk a.bn a.fl = true) : colorB a.fk a.fn = true ∧ colorB a.bk a.bn = true := by
  unfold rightB at h
  simp only [Bool.and_eq_true] at h
  exact ⟨h.1, h.2.1⟩
set_option maxRecDepth 100000 in
theorem layT_short (a : AT) (h : rightB a.fk a.fn a.bk a.bn a.fl = true) : (layT [] (numsP a)).length ≤ 704 := by
  obtain ⟨h1, h2⟩ := right_parts h
  obtain ⟨c1, c2⟩ := numsR_mem a h1 h2
  have := layT_len [] (numsP a) (fun z hz => by have := c1 z hz; omega)
  simp only [List.length_nil] at this
  omega
set_option maxRecDepth 100000 in
theorem as_step {w W W' : World} {v0 v1 v2 v3 v4 : Value} (h : (W.cell? ⟨w.heap.size, 0, none⟩ = some v0 ∧ W.cell? ⟨w.heap.size, 1, none⟩ = some v1 ∧ W.cell? ⟨w.heap.size, 2, none⟩ = some v2 ∧ W.cell? ⟨w.heap.size, 3, none⟩ = some v3 ∧ W.cell? ⟨w.heap.size, 4, none⟩ = some v4) ∧ w.heap.size < W.heap.size ∧ Below w.heap.size w W) (hb : Below W.heap.size W W') :
    (W'.cell? ⟨w.heap.size, 0, none⟩ = some v0 ∧ W'.cell? ⟨w.heap.size, 1, none⟩ = some v1 ∧ W'.cell? ⟨w.heap.size, 2, none⟩ = some v2 ∧ W'.cell? ⟨w.heap.size, 3, none⟩ = some v3 ∧ W'.cell? ⟨w.heap.size, 4, none⟩ = some v4) ∧ w.heap.size < W'.heap.size ∧ Below w.heap.size w W' :=
  ⟨⟨(hb.cell (p := ⟨w.heap.size, 0, none⟩) h.2.1).trans h.1.1, (hb.cell (p := ⟨w.heap.size, 1, none⟩) h.2.1).trans h.1.2.1, (hb.cell (p := ⟨w.heap.size, 2, none⟩) h.2.1).trans h.1.2.2.1, (hb.cell (p := ⟨w.heap.size, 3, none⟩) h.2.1).trans h.1.2.2.2.1, (hb.cell (p := ⟨w.heap.size, 4, none⟩) h.2.1).trans h.1.2.2.2.2⟩, Nat.lt_of_lt_of_le h.2.1 hb.size, bel0 h.2.2 hb⟩
set_option maxRecDepth 100000 in
theorem as_start (w : World) (v0 v1 v2 v3 v4 : Value) : ((w.alloc (.cells #[v0, v1, v2, v3, v4] 29)).cell? ⟨w.heap.size, 0, none⟩ = some v0 ∧ (w.alloc (.cells #[v0, v1, v2, v3, v4] 29)).cell? ⟨w.heap.size, 1, none⟩ = some v1 ∧ (w.alloc (.cells #[v0, v1, v2, v3, v4] 29)).cell? ⟨w.heap.size, 2, none⟩ = some v2 ∧ (w.alloc (.cells #[v0, v1, v2, v3, v4] 29)).cell? ⟨w.heap.size, 3, none⟩ = some v3 ∧ (w.alloc (.cells #[v0, v1, v2, v3, v4] 29)).cell? ⟨w.heap.size, 4, none⟩ = some v4) ∧ w.heap.size < (w.alloc (.cells #[v0, v1, v2, v3, v4] 29)).heap.size ∧ Below w.heap.size w (w.alloc (.cells #[v0, v1, v2, v3, v4] 29)) := by
  have hb := heap_alloc_new w (.cells #[v0, v1, v2, v3, v4] 29)
  exact ⟨⟨cell_of_row _ _ 0 _ _ _ hb, cell_of_row _ _ 1 _ _ _ hb, cell_of_row _ _ 2 _ _ _ hb, cell_of_row _ _ 3 _ _ _ hb, cell_of_row _ _ 4 _ _ _ hb⟩, by simp, belA (Below.refl _ _) _⟩
set_option maxRecDepth 100000 in
theorem as_drew {w W : World} {v0 v1 v2 v3 v4 : Value} (h : (W.cell? ⟨w.heap.size, 0, none⟩ = some v0 ∧ W.cell? ⟨w.heap.size, 1, none⟩ = some v1 ∧ W.cell? ⟨w.heap.size, 2, none⟩ = some v2 ∧ W.cell? ⟨w.heap.size, 3, none⟩ = some v3 ∧ W.cell? ⟨w.heap.size, 4, none⟩ = some v4) ∧ w.heap.size < W.heap.size ∧ Below w.heap.size w W) :
    (W.drew.cell? ⟨w.heap.size, 0, none⟩ = some v0 ∧ W.drew.cell? ⟨w.heap.size, 1, none⟩ = some v1 ∧ W.drew.cell? ⟨w.heap.size, 2, none⟩ = some v2 ∧ W.drew.cell? ⟨w.heap.size, 3, none⟩ = some v3 ∧ W.drew.cell? ⟨w.heap.size, 4, none⟩ = some v4) ∧ w.heap.size < W.drew.heap.size ∧ Below w.heap.size w W.drew := as_step h ((Below.refl W.heap.size W).drew)
set_option maxRecDepth 100000 in
theorem as_below {w W : World} {v0 v1 v2 v3 v4 : Value} (h : (W.cell? ⟨w.heap.size, 0, none⟩ = some v0 ∧ W.cell? ⟨w.heap.size, 1, none⟩ = some v1 ∧ W.cell? ⟨w.heap.size, 2, none⟩ = some v2 ∧ W.cell? ⟨w.heap.size, 3, none⟩ = some v3 ∧ W.cell? ⟨w.heap.size, 4, none⟩ = some v4) ∧ w.heap.size < W.heap.size ∧ Below w.heap.size w W) : Below w.heap.size w W := h.2.2

/-- What is told of an attribute, of margins, and of other things. -/
def txtA (a : AT) : List UInt8 := if rightB a.fk a.fn a.bk a.bn a.fl = true then layT [] (numsP a) else [48]
def setM (a : AT) : List UInt8 := [27, 80, 49, 36, 114] ++ txtA a ++ [109, 27, 92]
def setR (t b : Int) : List UInt8 := [27, 80, 49, 36, 114] ++ (Lib.itoa (sideZ t + 1) ++ [59] ++ Lib.itoa (sideZ b + 1)) ++ [114, 27, 92]
def setO : List UInt8 := [27, 80, 48, 36, 114, 27, 92]
set_option maxRecDepth 100000 in
set_option maxHeartbeats 4000000 in
theorem set_m (fk fn bk bn fl t b : Int) (w : World) (hT : TT w) (hT10 : T10 w.heap.size w) :
    Calls Tryd.prog 13 #[.string ⟨#[109]⟩, .agg #[.int .i64 fk, .int .i64 fn, .int .i64 bk, .int .i64 bn, .int .i64 fl], .int .i64 t, .int .i64 b] w fun e w' => e = .returned (.string (bsB (setM ⟨fk, fn, bk, bn, fl⟩))) ∧ Below w.heap.size w w' := by
  have HW := Lib.hid (belA (Below.refl w.heap.size w) (.cells #[.int .i64 fk, .int .i64 fn, .int .i64 bk, .int .i64 bn, .int .i64 fl] 29))
  cases hr : rightB fk fn bk bn fl with
  | true =>
    have HC : Hid (Calls Tryd.prog 26 #[.agg #[.int .i64 fk, .int .i64 fn, .int .i64 bk, .int .i64 bn, .int .i64 fl]] (w.alloc (.cells #[.int .i64 fk, .int .i64 fn, .int .i64 bk, .int .i64 bn, .int .i64 fl] 29)) fun e w' => e = .returned (.string (bsB (layT [] (numsP ⟨fk, fn, bk, bn, fl⟩)))) ∧ Below (w.alloc (.cells #[.int .i64 fk, .int .i64 fn, .int .i64 bk, .int .i64 bn, .int .i64 fl] 29)).heap.size (w.alloc (.cells #[.int .i64 fk, .int .i64 fn, .int .i64 bk, .int .i64 bn, .int .i64 fl] 29)) w') := Lib.hid (attrText_any ⟨fk, fn, bk, bn, fl⟩ _ hr (hT.below HW.out) (hT10.on HW.out (by simp)))
    have hs : (bsB (layT [] (numsP ⟨fk, fn, bk, bn, fl⟩))).size ≤ 704 := by rw [bsB_size]; exact layT_short _ hr
    have he : (bsB (layT [] (numsP ⟨fk, fn, bk, bn, fl⟩))).toList.isEmpty = false := by
      rw [bs_toList]
      have h := layT_ne (flagNums fl 18 ++ colNums 38 fk fn ++ colNums 48 bk bn)
      unfold numsP
      cases hl : layT [] (0 :: (flagNums fl 18 ++ colNums 38 fk fn ++ colNums 48 bk bn)) with
      | nil => exact absurd hl h
      | cons _ _ => rfl
    have HR : Hid ((⟨#[27, 80, 49, 36, 114]⟩ : ByteArray) ++ bsB (layT [] (numsP ⟨fk, fn, bk, bn, fl⟩)) ++ (⟨#[109]⟩ : ByteArray) ++ (⟨#[27, 92]⟩ : ByteArray) = bsB (setM ⟨fk, fn, bk, bn, fl⟩)) := Lib.hid (by
      rw [setM, txtA, if_pos hr]
      apply ByteArray.ext
      simp [bsB])
    clear hT hT10 hr
    generalize bsB (layT [] (numsP ⟨fk, fn, bk, bn, fl⟩)) = s at *
    go_enter Tryd.func13, Tryd.ntmps13
    go_wp2_with (go_at_call 26; (with_reducible refine (HC.out).mono ?_); rintro e w1 ⟨rfl, hb⟩; have HB := Lib.hid (bel0 HW.out hb); clear hb)
    go_ret
    exact ⟨by rw [← HR.out]; rfl, HB.out⟩
  | false =>
    have HC : Hid (Calls Tryd.prog 26 #[.agg #[.int .i64 fk, .int .i64 fn, .int .i64 bk, .int .i64 bn, .int .i64 fl]] (w.alloc (.cells #[.int .i64 fk, .int .i64 fn, .int .i64 bk, .int .i64 bn, .int .i64 fl] 29)) fun e w' => e = .returned (.string ⟨#[]⟩) ∧ Below (w.alloc (.cells #[.int .i64 fk, .int .i64 fn, .int .i64 bk, .int .i64 bn, .int .i64 fl] 29)).heap.size (w.alloc (.cells #[.int .i64 fk, .int .i64 fn, .int .i64 bk, .int .i64 bn, .int .i64 fl] 29)) w') := Lib.hid (attrText_no ⟨fk, fn, bk, bn, fl⟩ _ hr)
    have HR : Hid ((⟨#[27, 80, 49, 36, 114, 48, 109, 27, 92]⟩ : ByteArray) = bsB (setM ⟨fk, fn, bk, bn, fl⟩)) := Lib.hid (by
      rw [setM, txtA, if_neg (by rw [hr]; decide)]
      rfl)
    clear hT hT10 hr
    go_enter Tryd.func13, Tryd.ntmps13
    go_wp2_with (go_at_call 26; (with_reducible refine (HC.out).mono ?_); rintro e w1 ⟨rfl, hb⟩; have HB := Lib.hid (bel0 HW.out hb); clear hb)
    go_ret
    exact ⟨by rw [← HR.out]; rfl, HB.out⟩
set_option maxRecDepth 100000 in
set_option maxHeartbeats 4000000 in
theorem set_r (fk fn bk bn fl t b : Int) (w : World) (hT10 : T10 w.heap.size w) :
    Calls Tryd.prog 13 #[.string ⟨#[114]⟩, .agg #[.int .i64 fk, .int .i64 fn, .int .i64 bk, .int .i64 bn, .int .i64 fl], .int .i64 t, .int .i64 b] w fun e w' => e = .returned (.string (bsB (setR t b))) ∧ Below w.heap.size w w' := by
  have HW := Lib.hid (belA (Below.refl w.heap.size w) (.cells #[.int .i64 fk, .int .i64 fn, .int .i64 bk, .int .i64 bn, .int .i64 fl] 29))
  obtain ⟨y0, y1⟩ := sideZ_bd t
  obtain ⟨x0, x1⟩ := sideZ_bd b
  have H1 := Lib.hid (counted_any t)
  have H2 := Lib.hid (counted_any b)
  have H3 := Lib.hid (numbers2 (sideZ t + 1) (sideZ b + 1) (by omega) (by omega) (by omega) (by omega) _ (hT10.on HW.out (by simp)))
  have hs : (bsB (Lib.itoa (sideZ t + 1) ++ [59] ++ Lib.itoa (sideZ b + 1))).size ≤ 43 := by
    have := itoa_21 (sideZ t + 1) (by omega) (by omega)
    have := itoa_21 (sideZ b + 1) (by omega) (by omega)
    rw [bsB_size]
    simp
    omega
  have HR : Hid ((⟨#[27, 80, 49, 36, 114]⟩ : ByteArray) ++ bsB (Lib.itoa (sideZ t + 1) ++ [59] ++ Lib.itoa (sideZ b + 1)) ++ (⟨#[114]⟩ : ByteArray) ++ (⟨#[27, 92]⟩ : ByteArray) = bsB (setR t b)) := Lib.hid (by
    rw [setR]
    apply ByteArray.ext
    simp [bsB])
  have HSZ : Hid ((w.alloc (.cells #[.int .i64 fk, .int .i64 fn, .int .i64 bk, .int .i64 bn, .int .i64 fl] 29)).heap.size = w.heap.size + 1) := Lib.hid (by simp)
  rw [HSZ.out] at H3
  clear hT10 y0 y1 x0 x1
  generalize bsB (Lib.itoa (sideZ t + 1) ++ [59] ++ Lib.itoa (sideZ b + 1)) = s at *
  generalize sideZ t + 1 = z1 at *
  generalize sideZ b + 1 = z2 at *
  go_enter Tryd.func13, Tryd.ntmps13
  go_wp2_with (first
    | (go_at_call 19; (with_reducible refine (H1.out _).mono ?_); rintro e w1 ⟨rfl, rfl⟩)
    | (go_at_call 19; (with_reducible refine (H2.out _).mono ?_); rintro e w2 ⟨rfl, rfl⟩)
    | (go_at_call 18; (with_reducible refine (H3.out).mono ?_); rintro e w3 ⟨rfl, hb⟩; have HB3 := Lib.hid (bel0 HW.out (HSZ.out ▸ hb)); clear hb))
  go_ret
  exact ⟨by rw [← HR.out]; rfl, HB3.out⟩
set_option maxRecDepth 100000 in
set_option maxHeartbeats 4000000 in
theorem set_o (S : ByteArray) (fk fn bk bn fl t b : Int) (h1 : (S.toList == [109]) = false) (h2 : (S.toList == [114]) = false) (w : World) :
    Calls Tryd.prog 13 #[.string S, .agg #[.int .i64 fk, .int .i64 fn, .int .i64 bk, .int .i64 bn, .int .i64 fl], .int .i64 t, .int .i64 b] w fun e w' => e = .returned (.string (bsB setO)) ∧ Below w.heap.size w w' := by
  have HW := Lib.hid (belA (Below.refl w.heap.size w) (.cells #[.int .i64 fk, .int .i64 fn, .int .i64 bk, .int .i64 bn, .int .i64 fl] 29))
  go_enter Tryd.func13, Tryd.ntmps13
  go_wp2
  go_ret
  exact ⟨rfl, HW.out⟩

set_option maxRecDepth 100000 in
set_option maxHeartbeats 4000000 in
theorem rset_m (fk fn bk bn fl t b : Int) (h0 : -9223372036854775808 ≤ fl) (h63 : fl ≤ 9223372036854775807) (w : World) :
    Calls Tryd.prog 14 #[.string ⟨#[109]⟩, .agg #[.int .i64 fk, .int .i64 fn, .int .i64 bk, .int .i64 bn, .int .i64 fl], .int .i64 t, .int .i64 b] w fun e w' => e = .returned (.string (bsB (setM ⟨fk, fn, bk, bn, fl⟩))) ∧ Below w.heap.size w w' := by
  have HW := Lib.hid (belA (Below.refl w.heap.size w) (.cells #[.int .i64 fk, .int .i64 fn, .int .i64 bk, .int .i64 bn, .int .i64 fl] 29))
  have hS0 := as_start w (.int .i64 fk) (.int .i64 fn) (.int .i64 bk) (.int .i64 bn) (.int .i64 fl)
  have HS0 := Lib.hid hS0
  have HD := Lib.hid (fun W => rightD_any fk fn bk bn fl h63 W)
  rw [← right_same fk fn bk bn fl h0 h63] at HD
  cases hr : rightB fk fn bk bn fl with
  | true =>
    rw [hr] at HD
    have hok : okF fl = true := by
      have h := hr
      rw [right_same fk fn bk bn fl h0 h63] at h
      unfold rightD at h
      simp only [Bool.and_eq_true] at h
      unfold okF
      simp only [Bool.and_eq_true]
      exact h.2.2
    have hf := okF_range hok
    have HC : Hid (∀ W, Calls Tryd.prog 28 #[.agg #[.int .i64 fk, .int .i64 fn, .int .i64 bk, .int .i64 bn, .int .i64 fl]] W fun e w' => e = .returned (.string (bsB (layT [] (numsP ⟨fk, fn, bk, bn, fl⟩)))) ∧ Below W.heap.size W w') := Lib.hid fun W => refText_any ⟨fk, fn, bk, bn, fl⟩ W hr hf.1 hf.2
    have hs : (bsB (layT [] (numsP ⟨fk, fn, bk, bn, fl⟩))).size ≤ 704 := by rw [bsB_size]; exact layT_short _ hr
    have HR : Hid ((⟨#[27, 80]⟩ : ByteArray) ++ ((⟨#[49, 36, 114]⟩ : ByteArray) ++ bsB (layT [] (numsP ⟨fk, fn, bk, bn, fl⟩)) ++ (⟨#[109]⟩ : ByteArray)) ++ (⟨#[27, 92]⟩ : ByteArray) = bsB (setM ⟨fk, fn, bk, bn, fl⟩)) := Lib.hid (by
      rw [setM, txtA, if_pos hr]
      apply ByteArray.ext
      simp [bsB])
    clear hr hok hf hS0 h0 h63
    generalize bsB (layT [] (numsP ⟨fk, fn, bk, bn, fl⟩)) = s at *
    go_enter Tryd.func14, Tryd.ntmps14
    go_wp2_with (first
      | (go_at_call 27; (with_reducible refine (HD.out _).mono ?_); rintro e w1 ⟨rfl, hb⟩; have HS1 := Lib.hid (as_step HS0.out hb); obtain ⟨⟨x0, x1, x2, x3, x4⟩, _⟩ := HS1.out; clear hb)
      | (go_at_call 28; (with_reducible refine (HC.out _).mono ?_); rintro e w2 ⟨rfl, hb⟩; have HB := Lib.hid (bel0 (as_below HS1.out) hb); clear hb))
    go_ret
    exact ⟨by rw [← HR.out]; rfl, HB.out⟩
  | false =>
    rw [hr] at HD
    have HR : Hid ((⟨#[27, 80, 49, 36, 114, 48, 109, 27, 92]⟩ : ByteArray) = bsB (setM ⟨fk, fn, bk, bn, fl⟩)) := Lib.hid (by
      rw [setM, txtA, if_neg (by rw [hr]; decide)]
      rfl)
    clear hr hS0 h0 h63
    go_enter Tryd.func14, Tryd.ntmps14
    go_wp2_with (go_at_call 27; (with_reducible refine (HD.out _).mono ?_); rintro e w1 ⟨rfl, hb⟩; have HS1 := Lib.hid (as_step HS0.out hb); clear hb)
    go_ret
    exact ⟨by rw [← HR.out]; rfl, as_below HS1.out⟩
set_option maxRecDepth 100000 in
set_option maxHeartbeats 4000000 in
theorem rset_r (fk fn bk bn fl t b : Int) (w : World) :
    Calls Tryd.prog 14 #[.string ⟨#[114]⟩, .agg #[.int .i64 fk, .int .i64 fn, .int .i64 bk, .int .i64 bn, .int .i64 fl], .int .i64 t, .int .i64 b] w fun e w' => e = .returned (.string (bsB (setR t b))) ∧ Below w.heap.size w w' := by
  have HW := Lib.hid (belA (Below.refl w.heap.size w) (.cells #[.int .i64 fk, .int .i64 fn, .int .i64 bk, .int .i64 bn, .int .i64 fl] 29))
  obtain ⟨y0, y1⟩ := sideZ_bd t
  obtain ⟨x0, x1⟩ := sideZ_bd b
  have H1 := Lib.hid (near_any t)
  have H2 := Lib.hid (near_any b)
  have H3 := Lib.hid (digitsI (sideZ t + 1) (by omega) (by omega))
  have H4 := Lib.hid (digitsI (sideZ b + 1) (by omega) (by omega))
  have w1 : IntKind.i64.wrap (sideZ t + 1) = sideZ t + 1 := IntWalk.i64_in _ (by omega)
  have w2 : IntKind.i64.wrap (sideZ b + 1) = sideZ b + 1 := IntWalk.i64_in _ (by omega)
  have hs1 : (bsB (Lib.itoa (sideZ t + 1))).size ≤ 21 := by rw [bsB_size]; exact itoa_21 _ (by omega) (by omega)
  have hs2 : (bsB (Lib.itoa (sideZ b + 1))).size ≤ 21 := by rw [bsB_size]; exact itoa_21 _ (by omega) (by omega)
  have HR : Hid ((⟨#[27, 80]⟩ : ByteArray) ++ ((⟨#[49, 36, 114]⟩ : ByteArray) ++ bsB (Lib.itoa (sideZ t + 1)) ++ (⟨#[59]⟩ : ByteArray) ++ bsB (Lib.itoa (sideZ b + 1)) ++ (⟨#[114]⟩ : ByteArray)) ++ (⟨#[27, 92]⟩ : ByteArray) = bsB (setR t b)) := Lib.hid (by
    rw [setR]
    apply ByteArray.ext
    simp [bsB])
  clear y0 y1 x0 x1
  generalize bsB (Lib.itoa (sideZ t + 1)) = s1 at *
  generalize bsB (Lib.itoa (sideZ b + 1)) = s2 at *
  generalize sideZ t = z1 at *
  generalize sideZ b = z2 at *
  go_enter Tryd.func14, Tryd.ntmps14
  go_wp2_with (first
    | (go_at_call 21; (with_reducible refine (H1.out _).mono ?_); rintro e x1 ⟨rfl, rfl⟩)
    | (go_at_call 20; (with_reducible refine (H3.out _).mono ?_); rintro e x2 ⟨rfl, hb⟩; have HB1 := Lib.hid (bel0 HW.out hb); clear hb)
    | (go_at_call 21; (with_reducible refine (H2.out _).mono ?_); rintro e x3 ⟨rfl, rfl⟩)
    | (go_at_call 20; (with_reducible refine (H4.out _).mono ?_); rintro e x4 ⟨rfl, hb⟩; have HB2 := Lib.hid (bel0 HB1.out hb); clear hb))
  go_ret
  exact ⟨by rw [← HR.out]; rfl, HB2.out⟩
set_option maxRecDepth 100000 in
set_option maxHeartbeats 4000000 in
theorem rset_o (S : ByteArray) (fk fn bk bn fl t b : Int) (h1 : (S.toList == [109]) = false) (h2 : (S.toList == [114]) = false) (w : World) :
    Calls Tryd.prog 14 #[.string S, .agg #[.int .i64 fk, .int .i64 fn, .int .i64 bk, .int .i64 bn, .int .i64 fl], .int .i64 t, .int .i64 b] w fun e w' => e = .returned (.string (bsB setO)) ∧ Below w.heap.size w w' := by
  have HW := Lib.hid (belA (Below.refl w.heap.size w) (.cells #[.int .i64 fk, .int .i64 fn, .int .i64 bk, .int .i64 bn, .int .i64 fl] 29))
  go_enter Tryd.func14, Tryd.ntmps14
  go_wp2
  go_ret
  exact ⟨rfl, HW.out⟩
end Go.Proofs.YtlolbfbkoimjkaaDoor
