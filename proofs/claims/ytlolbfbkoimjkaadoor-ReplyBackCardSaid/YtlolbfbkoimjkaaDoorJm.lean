/- The law ReplyBack. -/
import Derived.Test.YtlolbfbkoimjkaaDoorJk
import Derived.Test.YtlolbfbkoimjkaaDoorJd
namespace Go.Proofs.YtlolbfbkoimjkaaDoor
open Go.RowKit

theorem mid2 (a b : Int) (h0 : 0 ≤ a) (h1 : a ≤ 65535) (h2 : 0 ≤ b) (h3 : b ≤ 65535) : HZ (Lib.itoa a ++ [59] ++ Lib.itoa b) = [[a], [b]] ∧ headL (Lib.itoa a ++ [59] ++ Lib.itoa b) = true := by
  have ea : clampV a = a := by unfold clampV; omega
  have eb : clampV b = b := by unfold clampV; omega
  have ec : cleanL (oneL [a, b]) = [[a], [b]] := by simp [cleanL, oneL, rowZ, ea, eb]
  have hr : ∀ r ∈ [[a], [b]], r ≠ [] ∧ r.length ≤ 8 ∧ ∀ z ∈ r, -1 ≤ z ∧ z ≤ 65535 := by
    rw [← ec]
    exact cleanL_all _
  rw [← nums_two a b h0 h1 h2 h3, ec, textT_textB _ (fun r h => (hr r h).1)]
  exact ⟨text_groups _ (by simp) (by simp) hr, text_head _ (fun r h z hz => ((hr r h).2.2 z hz).1)⟩
theorem mid3 (a b c : Int) (h0 : 0 ≤ a) (h1 : a ≤ 65535) (h2 : 0 ≤ b) (h3 : b ≤ 65535) (h4 : 0 ≤ c) (h5 : c ≤ 65535) : HZ (Lib.itoa a ++ [59] ++ Lib.itoa b ++ [59] ++ Lib.itoa c) = [[a], [b], [c]] ∧ headL (Lib.itoa a ++ [59] ++ Lib.itoa b ++ [59] ++ Lib.itoa c) = true := by
  have ea : clampV a = a := by unfold clampV; omega
  have eb : clampV b = b := by unfold clampV; omega
  have ed : clampV c = c := by unfold clampV; omega
  have ec : cleanL (oneL [a, b, c]) = [[a], [b], [c]] := by simp [cleanL, oneL, rowZ, ea, eb, ed]
  have hr : ∀ r ∈ [[a], [b], [c]], r ≠ [] ∧ r.length ≤ 8 ∧ ∀ z ∈ r, -1 ≤ z ∧ z ≤ 65535 := by
    rw [← ec]
    exact cleanL_all _
  rw [← nums_three a b c h0 h1 h2 h3 h4 h5, ec, textT_textB _ (fun r h => (hr r h).1)]
  exact ⟨text_groups _ (by simp) (by simp) hr, text_head _ (fun r h z hz => ((hr r h).2.2 z hz).1)⟩
theorem itoa_cons (a : Int) (h0 : 0 ≤ a) : ∃ d ds, Lib.itoa a = d :: ds ∧ isPreB d = false := by
  cases h : Lib.itoa a with
  | nil =>
    rw [Lib.itoa, if_neg (by omega)] at h
    exact absurd h (dec_neM _)
  | cons d ds =>
    refine ⟨d, ds, rfl, ?_⟩
    have hd : d ∈ Lib.itoa a := by rw [h]; exact List.mem_cons_self ..
    rw [Lib.itoa, if_neg (by omega)] at hd
    have := (dec_headM _ d hd).2
    unfold isPreB
    rw [decide_eq_false (by omega), Bool.false_and]
def OkG (z : UInt8) (L : List (List Int)) (w : World) (e : Ending) (w' : World) : Prop := ∃ A c, e = .returned (.tuple #[.int .u8 z.toNat, .slice A L.length c, .int .i64 0]) ∧ RG w' w'.heap.size A L ∧ Below w.heap.size w w'
theorem read_cursor (y x : Int) (p : Bool) (w : World) (hP : PT w) : Calls Tryd.prog 15 #[.string (bsB (curT y x p))] w (OkG 82 [[sideZ y + 1], [sideZ x + 1]] w) := by
  obtain ⟨y0, y1⟩ := sideZ_bd y
  obtain ⟨x0, x1⟩ := sideZ_bd x
  obtain ⟨e1, e2⟩ := mid2 (sideZ y + 1) (sideZ x + 1) (by omega) (by omega) (by omega) (by omega)
  have l1 := itoa_21 (sideZ y + 1) (by omega) (by omega)
  have l2 := itoa_21 (sideZ x + 1) (by omega) (by omega)
  have hl : (Lib.itoa (sideZ y + 1) ++ [59] ++ Lib.itoa (sideZ x + 1)).length ≤ 256 := by
    rw [List.length_append, List.length_append]
    simp only [List.length_cons, List.length_nil]
    omega
  unfold OkG
  rw [← e1]
  cases p with
  | true =>
    have e : curT y x true = 27 :: 91 :: (63 :: ((Lib.itoa (sideZ y + 1) ++ [59] ++ Lib.itoa (sideZ x + 1)) ++ [82])) := by simp [curT]
    rw [e]
    exact read_pre_ok _ 82 63 (by decide) hl (by decide) e2 w hP
  | false =>
    obtain ⟨d, ds, hd, hp⟩ := itoa_cons (sideZ y + 1) (by omega)
    have e : curT y x false = 27 :: 91 :: ((Lib.itoa (sideZ y + 1) ++ [59] ++ Lib.itoa (sideZ x + 1)) ++ [82]) := by simp [curT]
    rw [e]
    exact read_bare_ok _ 82 d (ds ++ [59] ++ Lib.itoa (sideZ x + 1) ++ [82]) (by rw [hd]; simp) hp hl (by decide) e2 w hP
theorem read_size (y x : Int) (w : World) (hP : PT w) : Calls Tryd.prog 15 #[.string (bsB (sizeT y x))] w (OkG 116 [[8], [sideZ y], [sideZ x]] w) := by
  obtain ⟨y0, y1⟩ := sideZ_bd y
  obtain ⟨x0, x1⟩ := sideZ_bd x
  obtain ⟨e1, e2⟩ := mid3 8 (sideZ y) (sideZ x) (by omega) (by omega) (by omega) (by omega) (by omega) (by omega)
  have l0 := itoa_21 8 (by omega) (by omega)
  have l1 := itoa_21 (sideZ y) (by omega) (by omega)
  have l2 := itoa_21 (sideZ x) (by omega) (by omega)
  have hl : (Lib.itoa 8 ++ [59] ++ Lib.itoa (sideZ y) ++ [59] ++ Lib.itoa (sideZ x)).length ≤ 256 := by
    rw [List.length_append, List.length_append, List.length_append, List.length_append]
    simp only [List.length_cons, List.length_nil]
    omega
  unfold OkG
  rw [← e1]
  obtain ⟨d, ds, hd, hp⟩ := itoa_cons 8 (by omega)
  have e : sizeT y x = 27 :: 91 :: ((Lib.itoa 8 ++ [59] ++ Lib.itoa (sideZ y) ++ [59] ++ Lib.itoa (sideZ x)) ++ [116]) := by simp [sizeT]
  rw [e]
  exact read_bare_ok _ 116 d (ds ++ [59] ++ Lib.itoa (sideZ y) ++ [59] ++ Lib.itoa (sideZ x) ++ [116]) (by rw [hd]; simp) hp hl (by decide) e2 w hP
theorem ri_one {W : World} {B g : Nat} {a : Int} (h : W.cell? ⟨g, 0, none⟩ = some (.int .i64 a)) (hg : g < B) : RI W B (some ⟨g, 0, none⟩) [a] := fun _ => ⟨g, 0, rfl, hg, fun k hk => by
  have : k = 0 := by simpa using hk
  subst this
  exact h⟩
theorem rg_two (w : World) (a b : Int) :
    RG (((w.alloc (.cells #[.int .i64 a] 3)).alloc (.cells #[.int .i64 b] 3)).alloc (.cells #[.slice (some ⟨w.heap.size, 0, none⟩) 1 1, .slice (some ⟨w.heap.size + 1, 0, none⟩) 1 1] 42))
      (((w.alloc (.cells #[.int .i64 a] 3)).alloc (.cells #[.int .i64 b] 3)).alloc (.cells #[.slice (some ⟨w.heap.size, 0, none⟩) 1 1, .slice (some ⟨w.heap.size + 1, 0, none⟩) 1 1] 42)).heap.size (some ⟨w.heap.size + 2, 0, none⟩) [[a], [b]] := fun _ => by
  have y0 := alloc_block (o' := .cells #[.slice (some ⟨w.heap.size, 0, none⟩) 1 1, .slice (some ⟨w.heap.size + 1, 0, none⟩) 1 1] 42) (heap_alloc2_old w (.cells #[.int .i64 a] 3) (.cells #[.int .i64 b] 3))
  have y1 := alloc_block (o' := .cells #[.slice (some ⟨w.heap.size, 0, none⟩) 1 1, .slice (some ⟨w.heap.size + 1, 0, none⟩) 1 1] 42) (heap_alloc2_new w (.cells #[.int .i64 a] 3) (.cells #[.int .i64 b] 3))
  have y2 := heap_alloc_new ((w.alloc (.cells #[.int .i64 a] 3)).alloc (.cells #[.int .i64 b] 3)) (.cells #[.slice (some ⟨w.heap.size, 0, none⟩) 1 1, .slice (some ⟨w.heap.size + 1, 0, none⟩) 1 1] 42)
  rw [show ((w.alloc (.cells #[.int .i64 a] 3)).alloc (.cells #[.int .i64 b] 3)).heap.size = w.heap.size + 2 by simp] at y2
  refine ⟨w.heap.size + 2, 0, rfl, by simp, fun i hi => ?_⟩
  match i, hi with
  | 0, _ => exact ⟨some ⟨w.heap.size, 0, none⟩, 1, cell_of_row _ _ 0 _ _ _ y2, ri_one (cell_of_row _ _ 0 _ _ _ y0) (by simp <;> omega), Nat.le_refl _⟩
  | 1, _ => exact ⟨some ⟨w.heap.size + 1, 0, none⟩, 1, cell_of_row _ _ 1 _ _ _ y2, ri_one (cell_of_row _ _ 0 _ _ _ y1) (by simp), Nat.le_refl _⟩
theorem rg_three (w : World) (a b c : Int) :
    RG ((((w.alloc (.cells #[.int .i64 a] 3)).alloc (.cells #[.int .i64 b] 3)).alloc (.cells #[.int .i64 c] 3)).alloc (.cells #[.slice (some ⟨w.heap.size, 0, none⟩) 1 1, .slice (some ⟨w.heap.size + 1, 0, none⟩) 1 1, .slice (some ⟨w.heap.size + 2, 0, none⟩) 1 1] 42))
      ((((w.alloc (.cells #[.int .i64 a] 3)).alloc (.cells #[.int .i64 b] 3)).alloc (.cells #[.int .i64 c] 3)).alloc (.cells #[.slice (some ⟨w.heap.size, 0, none⟩) 1 1, .slice (some ⟨w.heap.size + 1, 0, none⟩) 1 1, .slice (some ⟨w.heap.size + 2, 0, none⟩) 1 1] 42)).heap.size (some ⟨w.heap.size + 3, 0, none⟩) [[a], [b], [c]] := fun _ => by
  have y0 := alloc_block (o' := .cells #[.slice (some ⟨w.heap.size, 0, none⟩) 1 1, .slice (some ⟨w.heap.size + 1, 0, none⟩) 1 1, .slice (some ⟨w.heap.size + 2, 0, none⟩) 1 1] 42) (alloc_block (o' := .cells #[.int .i64 c] 3) (heap_alloc2_old w (.cells #[.int .i64 a] 3) (.cells #[.int .i64 b] 3)))
  have y1 := alloc_block (o' := .cells #[.slice (some ⟨w.heap.size, 0, none⟩) 1 1, .slice (some ⟨w.heap.size + 1, 0, none⟩) 1 1, .slice (some ⟨w.heap.size + 2, 0, none⟩) 1 1] 42) (alloc_block (o' := .cells #[.int .i64 c] 3) (heap_alloc2_new w (.cells #[.int .i64 a] 3) (.cells #[.int .i64 b] 3)))
  have yc := heap_alloc_new ((w.alloc (.cells #[.int .i64 a] 3)).alloc (.cells #[.int .i64 b] 3)) (.cells #[.int .i64 c] 3)
  rw [show ((w.alloc (.cells #[.int .i64 a] 3)).alloc (.cells #[.int .i64 b] 3)).heap.size = w.heap.size + 2 by simp] at yc
  have y2 := alloc_block (o' := .cells #[.slice (some ⟨w.heap.size, 0, none⟩) 1 1, .slice (some ⟨w.heap.size + 1, 0, none⟩) 1 1, .slice (some ⟨w.heap.size + 2, 0, none⟩) 1 1] 42) yc
  have y3 := heap_alloc_new (((w.alloc (.cells #[.int .i64 a] 3)).alloc (.cells #[.int .i64 b] 3)).alloc (.cells #[.int .i64 c] 3)) (.cells #[.slice (some ⟨w.heap.size, 0, none⟩) 1 1, .slice (some ⟨w.heap.size + 1, 0, none⟩) 1 1, .slice (some ⟨w.heap.size + 2, 0, none⟩) 1 1] 42)
  rw [show (((w.alloc (.cells #[.int .i64 a] 3)).alloc (.cells #[.int .i64 b] 3)).alloc (.cells #[.int .i64 c] 3)).heap.size = w.heap.size + 3 by simp] at y3
  refine ⟨w.heap.size + 3, 0, rfl, by simp, fun i hi => ?_⟩
  match i, hi with
  | 0, _ => exact ⟨some ⟨w.heap.size, 0, none⟩, 1, cell_of_row _ _ 0 _ _ _ y3, ri_one (cell_of_row _ _ 0 _ _ _ y0) (by simp <;> omega), Nat.le_refl _⟩
  | 1, _ => exact ⟨some ⟨w.heap.size + 1, 0, none⟩, 1, cell_of_row _ _ 1 _ _ _ y3, ri_one (cell_of_row _ _ 0 _ _ _ y1) (by simp <;> omega), Nat.le_refl _⟩
  | 2, _ => exact ⟨some ⟨w.heap.size + 2, 0, none⟩, 1, cell_of_row _ _ 2 _ _ _ y3, ri_one (cell_of_row _ _ 0 _ _ _ y2) (by simp), Nat.le_refl _⟩
set_option maxRecDepth 100000 in
set_option maxHeartbeats 8000000 in
theorem replyBack_law (y x : Nat) (hy : y ≤ 65535) (hx : x ≤ 65535) (p : Bool) (w : World) (hT : T10 w.heap.size w) (hP : PT w) :
    Calls Tryd.prog 6 #[.int .u16 y, .int .u16 x, .bool p] w fun e w' => e = .returned (.bool true) ∧ Below w.heap.size w w' := by
  have ey : sideZ (y : Int) = min (y : Int) 1000 := by unfold sideZ; omega
  have ex : sideZ (x : Int) = min (x : Int) 1000 := by unfold sideZ; omega
  have HCU : Hid (Calls Tryd.prog 8 #[.int .i64 y, .int .i64 x, .bool p] w fun e w' => e = .returned (.string (bsB (curT y x p))) ∧ Below w.heap.size w w') := Lib.hid (cursor_any y x p w hT)
  have HSI : Hid (∀ W, Below w.heap.size w W → Calls Tryd.prog 10 #[.int .i64 y, .int .i64 x] W fun e w' => e = .returned (.string (bsB (sizeT y x))) ∧ Below W.heap.size W w') := Lib.hid fun W hb => size_any y x W (hT.on hb hb.size)
  have HAW : Hid (∀ W, Below w.heap.size w W → Calls Tryd.prog 12 #[] W fun e w' => e = .returned (.bool true) ∧ Below W.heap.size W w') := Lib.hid fun W hb => awake_any W (hT.on hb hb.size)
  have HR1 : Hid (∀ W, Below w.heap.size w W → Calls Tryd.prog 15 #[.string (bsB (curT y x p))] W (OkG 82 [[sideZ y + 1], [sideZ x + 1]] W)) := Lib.hid fun W hb => read_cursor y x p W (hP.below hb)
  have HR2 : Hid (∀ W, Below w.heap.size w W → Calls Tryd.prog 15 #[.string (bsB (sizeT y x))] W (OkG 116 [[8], [sideZ y], [sideZ x]] W)) := Lib.hid fun W hb => read_size y x W (hP.below hb)
  rw [ey, ex] at HR1 HR2
  have b1 : 0 ≤ min (y : Int) 1000 ∧ min (y : Int) 1000 ≤ 1000 := by omega
  have b2 : 0 ≤ min (x : Int) 1000 ∧ min (x : Int) 1000 ≤ 1000 := by omega
  have w1 : IntKind.i64.wrap (min (y : Int) 1000 + 1) = min (y : Int) 1000 + 1 := IntWalk.i64_in _ (by omega)
  have w2 : IntKind.i64.wrap (min (x : Int) 1000 + 1) = min (x : Int) 1000 + 1 := IntWalk.i64_in _ (by omega)
  have HS : Hid (∀ (L : List (List Int)), L.length ≤ 3 → (∀ i : Nat, (L[i]?.getD []).length ≤ 9223372036854775807) → ∀ W A A' c c', RG W W.heap.size A L → RG W W.heap.size A' L → Calls Tryd.prog 17 #[.slice A L.length c, .slice A' L.length c'] W fun e w' => e = .returned (.bool true) ∧ Below W.heap.size W w') := Lib.hid fun L hl hrow W A A' c c' h1 h2 => by
    have := same_any A A' L L _ _ c c' rfl rfl (by omega) hrow W h1 h2
    rw [show sameL L L = true from decide_eq_true rfl] at this
    exact this
  clear hT hP ey ex
  unfold OkG at *
  generalize bsB (curT y x p) = s1 at *
  generalize bsB (sizeT y x) = s2 at *
  go_enter Tryd.func6, Tryd.ntmps6
  go_wp2_with (first
    | (go_at_call 8; (with_reducible refine (HCU.out).mono ?_); rintro e x1 ⟨rfl, hb⟩; have HB1 := Lib.hid hb; clear hb)
    | (go_at_call 15; (with_reducible refine (HR1.out _ HB1.out).mono ?_); rintro e x2 ⟨A2, c2, rfl, hr, hb⟩; have HB2 := Lib.hid (bel0 HB1.out hb); have HG2 := Lib.hid hr; clear hb hr)
    | (go_at_call 10; (with_reducible refine (HSI.out _ HB2.out).mono ?_); rintro e x3 ⟨rfl, hb⟩; have HB3 := Lib.hid (bel0 HB2.out hb); have HG3 := Lib.hid (HG2.out.past hb); clear hb)
    | (go_at_call 15; (with_reducible refine (HR2.out _ HB3.out).mono ?_); rintro e x4 ⟨A4, c4, rfl, hr, hb⟩; have HB4 := Lib.hid (bel0 HB3.out hb); have HG4 := Lib.hid (HG3.out.past hb); have HH4 := Lib.hid hr; clear hb hr; have HB4a := Lib.hid (belA (belA (belA (Below.refl x4.heap.size x4) (.cells #[.int .i64 (min (y : Int) 1000 + 1)] 3)) (.cells #[.int .i64 (min (x : Int) 1000 + 1)] 3)) (.cells #[.slice (some ⟨x4.heap.size, 0, none⟩) 1 1, .slice (some ⟨x4.heap.size + 1, 0, none⟩) 1 1] 42)); have HQ1 : Hid (Calls Tryd.prog 17 #[.slice A2 2 c2, .slice (some ⟨x4.heap.size + 1 + 1, 0, none⟩) 2 2] (((x4.alloc (.cells #[.int .i64 (min (y : Int) 1000 + 1)] 3)).alloc (.cells #[.int .i64 (min (x : Int) 1000 + 1)] 3)).alloc (.cells #[.slice (some ⟨x4.heap.size, 0, none⟩) 1 1, .slice (some ⟨x4.heap.size + 1, 0, none⟩) 1 1] 42)) fun e w' => e = .returned (.bool true) ∧ Below (((x4.alloc (.cells #[.int .i64 (min (y : Int) 1000 + 1)] 3)).alloc (.cells #[.int .i64 (min (x : Int) 1000 + 1)] 3)).alloc (.cells #[.slice (some ⟨x4.heap.size, 0, none⟩) 1 1, .slice (some ⟨x4.heap.size + 1, 0, none⟩) 1 1] 42)).heap.size (((x4.alloc (.cells #[.int .i64 (min (y : Int) 1000 + 1)] 3)).alloc (.cells #[.int .i64 (min (x : Int) 1000 + 1)] 3)).alloc (.cells #[.slice (some ⟨x4.heap.size, 0, none⟩) 1 1, .slice (some ⟨x4.heap.size + 1, 0, none⟩) 1 1] 42)) w') := Lib.hid (HS.out [[min (y : Int) 1000 + 1], [min (x : Int) 1000 + 1]] (by simp) (fun i => by match i with | 0 => simp | 1 => simp | _ + 2 => simp) _ A2 _ c2 2 (HG4.out.past HB4a.out) (rg_two x4 (min (y : Int) 1000 + 1) (min (x : Int) 1000 + 1))))
    | (go_at_call 17; (with_reducible refine (HQ1.out).mono ?_); rintro e x5 ⟨rfl, hb⟩; have HB5 := Lib.hid (bel0 (bel0 HB4.out HB4a.out) hb); have HH5 := Lib.hid (HH4.out.past (bel0 HB4a.out hb)); clear hb; have HB5a := Lib.hid (belA (belA (belA (belA (Below.refl x5.heap.size x5) (.cells #[.int .i64 8] 3)) (.cells #[.int .i64 (min (y : Int) 1000)] 3)) (.cells #[.int .i64 (min (x : Int) 1000)] 3)) (.cells #[.slice (some ⟨x5.heap.size, 0, none⟩) 1 1, .slice (some ⟨x5.heap.size + 1, 0, none⟩) 1 1, .slice (some ⟨x5.heap.size + 1 + 1, 0, none⟩) 1 1] 42)); have HQ2 : Hid (Calls Tryd.prog 17 #[.slice A4 3 c4, .slice (some ⟨x5.heap.size + 1 + 1 + 1, 0, none⟩) 3 3] ((((x5.alloc (.cells #[.int .i64 8] 3)).alloc (.cells #[.int .i64 (min (y : Int) 1000)] 3)).alloc (.cells #[.int .i64 (min (x : Int) 1000)] 3)).alloc (.cells #[.slice (some ⟨x5.heap.size, 0, none⟩) 1 1, .slice (some ⟨x5.heap.size + 1, 0, none⟩) 1 1, .slice (some ⟨x5.heap.size + 1 + 1, 0, none⟩) 1 1] 42)) fun e w' => e = .returned (.bool true) ∧ Below ((((x5.alloc (.cells #[.int .i64 8] 3)).alloc (.cells #[.int .i64 (min (y : Int) 1000)] 3)).alloc (.cells #[.int .i64 (min (x : Int) 1000)] 3)).alloc (.cells #[.slice (some ⟨x5.heap.size, 0, none⟩) 1 1, .slice (some ⟨x5.heap.size + 1, 0, none⟩) 1 1, .slice (some ⟨x5.heap.size + 1 + 1, 0, none⟩) 1 1] 42)).heap.size ((((x5.alloc (.cells #[.int .i64 8] 3)).alloc (.cells #[.int .i64 (min (y : Int) 1000)] 3)).alloc (.cells #[.int .i64 (min (x : Int) 1000)] 3)).alloc (.cells #[.slice (some ⟨x5.heap.size, 0, none⟩) 1 1, .slice (some ⟨x5.heap.size + 1, 0, none⟩) 1 1, .slice (some ⟨x5.heap.size + 1 + 1, 0, none⟩) 1 1] 42)) w') := Lib.hid (HS.out [[8], [min (y : Int) 1000], [min (x : Int) 1000]] (by simp) (fun i => by match i with | 0 => simp | 1 => simp | 2 => simp | _ + 3 => simp) _ A4 _ c4 3 (HH5.out.past HB5a.out) (rg_three x5 8 (min (y : Int) 1000) (min (x : Int) 1000))))
    | (go_at_call 17; (with_reducible refine (HQ2.out).mono ?_); rintro e x6 ⟨rfl, hb⟩; have HB6 := Lib.hid (bel0 (bel0 HB5.out HB5a.out) hb); clear hb)
    | (go_at_call 12; (with_reducible refine (HAW.out _ HB6.out).mono ?_); rintro e x7 ⟨rfl, hb⟩; have HB7 := Lib.hid (bel0 HB6.out hb); clear hb))
  go_ret
  exact ⟨rfl, HB7.out⟩
theorem replyBack_lawI (y x : Int) (hy : 0 ≤ y ∧ y ≤ 65535) (hx : 0 ≤ x ∧ x ≤ 65535) (p : Bool) (w : World) (hT : T10 w.heap.size w) (hP : PT w) :
    Calls Tryd.prog 6 #[.int .u16 y, .int .u16 x, .bool p] w fun e w' => e = .returned (.bool true) ∧ Below w.heap.size w w' := by
  obtain ⟨a, rfl⟩ := Int.eq_ofNat_of_zero_le hy.1
  obtain ⟨b, rfl⟩ := Int.eq_ofNat_of_zero_le hx.1
  exact replyBack_law a b (by omega) (by omega) p w hT hP
end Go.Proofs.YtlolbfbkoimjkaaDoor
