/- The walks of the document's Cursor and Size; the law ReplyPlaces. -/
import Derived.Test.YtlolbfbkoimjkaaDoorJb
namespace Go.Proofs.YtlolbfbkoimjkaaDoor
open Go.RowKit

theorem bs_toList (l : List UInt8) : (bsB l).toList = l := by rw [Lib.toList_data]; rfl
set_option maxRecDepth 100000 in
set_option maxHeartbeats 4000000 in
theorem refCursor_any (y x : Int) (p : Bool) (w : World) :
    Calls Tryd.prog 9 #[.int .i64 y, .int .i64 x, .bool p] w fun e w' => e = .returned (.string (bsB (curT y x p))) ∧ Below w.heap.size w w' := by
  obtain ⟨y0, y1⟩ := sideZ_bd y
  obtain ⟨x0, x1⟩ := sideZ_bd x
  have H1 := Lib.hid (near_any y)
  have H2 := Lib.hid (near_any x)
  have H3 := Lib.hid (digitsI (sideZ y + 1) (by omega) (by omega))
  have H4 := Lib.hid (digitsI (sideZ x + 1) (by omega) (by omega))
  have w1 : IntKind.i64.wrap (sideZ y + 1) = sideZ y + 1 := IntWalk.i64_in _ (by omega)
  have w2 : IntKind.i64.wrap (sideZ x + 1) = sideZ x + 1 := IntWalk.i64_in _ (by omega)
  have hs1 : (bsB (Lib.itoa (sideZ y + 1))).size ≤ 21 := by rw [bsB_size]; exact itoa_21 _ (by omega) (by omega)
  have hs2 : (bsB (Lib.itoa (sideZ x + 1))).size ≤ 21 := by rw [bsB_size]; exact itoa_21 _ (by omega) (by omega)
  have HR : Hid ((⟨#[27, 91]⟩ : ByteArray) ++ (if p then ⟨#[63]⟩ else ⟨#[]⟩ : ByteArray) ++ bsB (Lib.itoa (sideZ y + 1)) ++ (⟨#[59]⟩ : ByteArray) ++ bsB (Lib.itoa (sideZ x + 1)) ++ (⟨#[82]⟩ : ByteArray) = bsB (curT y x p)) := Lib.hid (by
    apply ByteArray.ext
    cases p <;> simp [bsB, curT])
  clear y0 y1 x0 x1
  generalize bsB (Lib.itoa (sideZ y + 1)) = s1 at *
  generalize bsB (Lib.itoa (sideZ x + 1)) = s2 at *
  generalize sideZ y = a at *
  generalize sideZ x = b at *
  cases p with
  | true =>
    rw [if_pos rfl] at HR
    go_enter Tryd.func9, Tryd.ntmps9
    go_wp2_with (first
      | (go_at_call 21; (with_reducible refine (H1.out _).mono ?_); rintro e x1 ⟨rfl, rfl⟩)
      | (go_at_call 20; (with_reducible refine (H3.out _).mono ?_); rintro e x2 ⟨rfl, hb⟩; have HB1 := Lib.hid hb; clear hb)
      | (go_at_call 21; (with_reducible refine (H2.out _).mono ?_); rintro e x3 ⟨rfl, rfl⟩)
      | (go_at_call 20; (with_reducible refine (H4.out _).mono ?_); rintro e x4 ⟨rfl, hb⟩; have HB2 := Lib.hid (bel0 HB1.out hb); clear hb))
    go_ret
    exact ⟨by rw [← HR.out]; rfl, HB2.out⟩
  | false =>
    rw [if_neg (by decide)] at HR
    go_enter Tryd.func9, Tryd.ntmps9
    go_wp2_with (first
      | (go_at_call 21; (with_reducible refine (H1.out _).mono ?_); rintro e x1 ⟨rfl, rfl⟩)
      | (go_at_call 20; (with_reducible refine (H3.out _).mono ?_); rintro e x2 ⟨rfl, hb⟩; have HB1 := Lib.hid hb; clear hb)
      | (go_at_call 21; (with_reducible refine (H2.out _).mono ?_); rintro e x3 ⟨rfl, rfl⟩)
      | (go_at_call 20; (with_reducible refine (H4.out _).mono ?_); rintro e x4 ⟨rfl, hb⟩; have HB2 := Lib.hid (bel0 HB1.out hb); clear hb))
    go_ret
    exact ⟨by rw [← HR.out]; rfl, HB2.out⟩
set_option maxRecDepth 100000 in
set_option maxHeartbeats 4000000 in
theorem refSize_any (y x : Int) (w : World) :
    Calls Tryd.prog 11 #[.int .i64 y, .int .i64 x] w fun e w' => e = .returned (.string (bsB (sizeT y x))) ∧ Below w.heap.size w w' := by
  obtain ⟨y0, y1⟩ := sideZ_bd y
  obtain ⟨x0, x1⟩ := sideZ_bd x
  have H1 := Lib.hid (near_any y)
  have H2 := Lib.hid (near_any x)
  have H3 := Lib.hid (digitsI (sideZ y) (by omega) (by omega))
  have H4 := Lib.hid (digitsI (sideZ x) (by omega) (by omega))
  have hs1 : (bsB (Lib.itoa (sideZ y))).size ≤ 21 := by rw [bsB_size]; exact itoa_21 _ (by omega) (by omega)
  have hs2 : (bsB (Lib.itoa (sideZ x))).size ≤ 21 := by rw [bsB_size]; exact itoa_21 _ (by omega) (by omega)
  have HR : Hid ((⟨#[27, 91, 56, 59]⟩ : ByteArray) ++ bsB (Lib.itoa (sideZ y)) ++ (⟨#[59]⟩ : ByteArray) ++ bsB (Lib.itoa (sideZ x)) ++ (⟨#[116]⟩ : ByteArray) = bsB (sizeT y x)) := Lib.hid (by
    have e8 : Lib.itoa 8 = [56] := by simp [Lib.itoa, Lib.decDigits]
    rw [sizeT, e8]
    apply ByteArray.ext
    simp [bsB])
  clear y0 y1 x0 x1
  generalize bsB (Lib.itoa (sideZ y)) = s1 at *
  generalize bsB (Lib.itoa (sideZ x)) = s2 at *
  generalize sideZ y = a at *
  generalize sideZ x = b at *
  go_enter Tryd.func11, Tryd.ntmps11
  go_wp2_with (first
    | (go_at_call 21; (with_reducible refine (H1.out _).mono ?_); rintro e x1 ⟨rfl, rfl⟩)
    | (go_at_call 20; (with_reducible refine (H3.out _).mono ?_); rintro e x2 ⟨rfl, hb⟩; have HB1 := Lib.hid hb; clear hb)
    | (go_at_call 21; (with_reducible refine (H2.out _).mono ?_); rintro e x3 ⟨rfl, rfl⟩)
    | (go_at_call 20; (with_reducible refine (H4.out _).mono ?_); rintro e x4 ⟨rfl, hb⟩; have HB2 := Lib.hid (bel0 HB1.out hb); clear hb))
  go_ret
  exact ⟨by rw [← HR.out]; rfl, HB2.out⟩
set_option maxRecDepth 100000 in
set_option maxHeartbeats 4000000 in
theorem replyPlaces_law (y x : Int) (p : Bool) (w : World) (hT : T10 w.heap.size w) :
    Calls Tryd.prog 3 #[.int .i64 y, .int .i64 x, .bool p] w fun e w' => e = .returned (.bool true) ∧ Below w.heap.size w w' := by
  have H1 := Lib.hid (cursor_any y x p w hT)
  have H2 := Lib.hid (refCursor_any y x p)
  have H3 : Hid (∀ W, Below w.heap.size w W → Calls Tryd.prog 10 #[.int .i64 y, .int .i64 x] W fun e w' => e = .returned (.string (bsB (sizeT y x))) ∧ Below W.heap.size W w') := Lib.hid fun W hb => size_any y x W (hT.on hb hb.size)
  have H4 := Lib.hid (refSize_any y x)
  have H5 : Hid (∀ W, Below w.heap.size w W → Calls Tryd.prog 12 #[] W fun e w' => e = .returned (.bool true) ∧ Below W.heap.size W w') := Lib.hid fun W hb => awake_any W (hT.on hb hb.size)
  clear hT
  generalize bsB (curT y x p) = s1 at *
  generalize bsB (sizeT y x) = s2 at *
  go_enter Tryd.func3, Tryd.ntmps3
  go_wp2_with (first
    | (go_at_call 8; (with_reducible refine (H1.out).mono ?_); rintro e x1 ⟨rfl, hb⟩; have HB1 := Lib.hid hb; clear hb)
    | (go_at_call 9; (with_reducible refine (H2.out _).mono ?_); rintro e x2 ⟨rfl, hb⟩; have HB2 := Lib.hid (bel0 HB1.out hb); clear hb)
    | (go_at_call 10; (with_reducible refine (H3.out _ HB2.out).mono ?_); rintro e x3 ⟨rfl, hb⟩; have HB3 := Lib.hid (bel0 HB2.out hb); clear hb)
    | (go_at_call 11; (with_reducible refine (H4.out _).mono ?_); rintro e x4 ⟨rfl, hb⟩; have HB4 := Lib.hid (bel0 HB3.out hb); clear hb)
    | (go_at_call 12; (with_reducible refine (H5.out _ HB4.out).mono ?_); rintro e x5 ⟨rfl, hb⟩; have HB5 := Lib.hid (bel0 HB4.out hb); clear hb))
  go_ret
  exact ⟨rfl, HB5.out⟩
end Go.Proofs.YtlolbfbkoimjkaaDoor
