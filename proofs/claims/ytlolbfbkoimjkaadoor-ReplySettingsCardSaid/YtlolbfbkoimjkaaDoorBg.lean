/- The walks of layColor and Text. -/
import Derived.Test.YtlolbfbkoimjkaaDoorBf
import Derived.Laws.IdiomStrings
namespace Go.Proofs.YtlolbfbkoimjkaaDoor
open Go.RowKit

/-- The numbers of a color. -/
def colNums (which k n : Int) : List Int := if k = 1 then [which, 5, n] else if k = 2 then [which, 2, n / 65536, n / 256 % 256, n % 256] else []
set_option maxRecDepth 100000 in
theorem and255 (n : Int) (h0 : 0 ≤ n) (h1 : n < 9223372036854775808) : bits .and .i64 n 255 = n % 256 := by
  obtain ⟨a, rfl⟩ : ∃ a : Nat, n = a := ⟨n.toNat, by omega⟩
  show IntKind.i64.wrap ((BitVec.ofInt 64 (a : Int) &&& BitVec.ofInt 64 255).toNat : Int) = _
  rw [BitVec.toNat_and, ofInt_i64 _ (by omega), IntKind.wrap_i64]
  have e : (BitVec.ofInt 64 255).toNat = 2 ^ 8 - 1 := by decide
  rw [e, Nat.and_two_pow_sub_one_eq_mod]
  omega
set_option maxRecDepth 100000 in
theorem conv_own {w : World} {B n c : Nat} {A : Option Addr} {T : List UInt8} (h : w.ownsRow B 5 1 (.slice A n c) n (Lib.byteCells T)) (hn : n = T.length) :
    (Go.convert 59 9 (.slice A n c)).run Tryd.prog w = .ok (.string (bsB T)) w := by
  subst hn
  by_cases hz : T = []
  · subst hz
    rw [List.length_nil, run_convert_bytes_string w _ _ 5 A 0 c (by kernel_rfl) (by kernel_rfl) (by kernel_rfl)]
    cases A <;> rfl
  · obtain ⟨A', c', e, hA⟩ := own_form h
    injection e with e1 _ _
    subst e1
    obtain ⟨g, rfl⟩ := hA (List.length_pos_iff.2 hz)
    exact run_convert_bytes_back (P := Tryd.prog) w 59 9 5 ⟨g, 0, none⟩ c T (by kernel_rfl) (by kernel_rfl) (by kernel_rfl) (fun j hj => by
      have ea : (⟨g, 0, none⟩ : Addr).add j = ⟨g, j, none⟩ := by
        unfold Addr.add
        split <;> simp_all
      rw [ea, h.cellAt j (by omega), Lib.byteCells, List.getElem?_map, List.getElem?_eq_getElem hj]
      rfl)
set_option maxRecDepth 100000 in
theorem lay_new (w0 : World) (T : List UInt8) (vb : Value) (xs : List Int) (m : Nat) (hm : m = xs.length) (hm5 : m ≤ 5) (w : World) (hY : YR w0 w T vb) (hr : ∀ z ∈ xs, 0 ≤ z ∧ z ≤ 16777216) (hl : T.length ≤ 1000) (hT : T10 w0.heap.size w0) :
    Calls Tryd.prog 37 #[vb, .slice (some ⟨w.heap.size, 0, none⟩) m m] (w.alloc (.cells (xs.map (Value.int .i64)).toArray 3)) (LayPost w0 w (layT T xs)) := by
  refine (lay_any w0 T vb w.heap.size xs m m hm hm5 (w.alloc (.cells (xs.map (Value.int .i64)).toArray 3)) (hY.past ((Below.refl _ _).alloc (Nat.le_refl _) _)) (heap_alloc_new w _) hr hl hT).mono ?_
  rintro e w' ⟨A, c, rfl, h1, h2⟩
  exact ⟨A, c, rfl, h1, ((Lib.OthersKept.refl _ _ w).alloc _).trans h2⟩
set_option maxRecDepth 100000 in
theorem layT_len (T : List UInt8) (xs : List Int) (h : ∀ z ∈ xs, 0 ≤ z ∧ z ≤ 16777216) : (layT T xs).length ≤ T.length + 22 * xs.length := by
  refine snoc_ind (P := fun xs => (∀ z ∈ xs, 0 ≤ z ∧ z ≤ 16777216) → (layT T xs).length ≤ T.length + 22 * xs.length) (fun _ => by simp [layT]) (fun xs z ih h => ?_) xs h
  have h1 := ih (fun y hy => h y (by simp [hy]))
  have h2 := h z (by simp)
  have h3 := Lib.itoa_length_le z (by omega) (by omega)
  rw [layT_snoc]
  simp only [List.length_append, List.length_singleton]
  split
  · simp; omega
  · simp; omega
set_option maxHeartbeats 4000000 in
set_option maxRecDepth 100000 in
theorem layColor_any (w0 : World) (T : List UInt8) (vb : Value) (which k n : Int) (w : World) (hY : YR w0 w T vb) (hw : which = 38 ∨ which = 48) (hc : colorB k n = true) (hl : T.length ≤ 1000) (hT : T10 w0.heap.size w0) :
    Calls Tryd.prog 38 #[vb, .int .i64 which, .agg #[.int .i64 k, .int .i64 n]] w (LayPost w0 w (layT T (colNums which k n))) := by
  have HY := Lib.hid hY
  have hw0 : 0 ≤ which ∧ which ≤ 48 := by omega
  obtain ⟨hw1, hw2⟩ := hw0
  clear hw
  unfold LayPost
  by_cases h1 : k = 1
  · subst h1
    have hn : 0 ≤ n ∧ n ≤ 255 := by simpa [colorB] using hc
    obtain ⟨n0, n1⟩ := hn
    have HL : Hid (Calls Tryd.prog 37 #[vb, .slice (some ⟨w.heap.size + 1, 0, none⟩) 3 3] ((w.alloc (.cells #[.int .i64 1, .int .i64 n] 27)).alloc (.cells #[.int .i64 which, .int .i64 5, .int .i64 n] 3)) fun e w' => ∃ A c, e = .returned (.slice A (layT T (colNums which 1 n)).length c) ∧ YR w0 w' (layT T (colNums which 1 n)) (.slice A (layT T (colNums which 1 n)).length c) ∧ Lib.OthersKept 5 none w w') := Lib.hid (by
      have h := lay_new w0 T vb [which, 5, n] 3 rfl (by decide) (w.alloc (.cells #[.int .i64 1, .int .i64 n] 27)) (HY.out.past ((Below.refl _ _).alloc (Nat.le_refl _) _)) (by simp; omega) hl hT
      rw [show (w.alloc (.cells #[.int .i64 1, .int .i64 n] 27)).heap.size = w.heap.size + 1 by simp] at h
      refine Calls.mono h ?_
      rintro e w' ⟨A, c, rfl, h1, h2⟩
      exact ⟨A, c, rfl, h1, ((Lib.OthersKept.refl _ _ w).alloc _).trans h2⟩)
    clear hY hc hl hT HY
    generalize layT T (colNums which 1 n) = T2 at *
    go_enter Tryd.func38, Tryd.ntmps38
    go_wp2_with (go_at_call 37; (with_reducible refine HL.out.mono ?_); rintro e w3 ⟨A3, c3, rfl, hy3, ho3⟩; have HY3 := Lib.hid hy3; have HO3 := Lib.hid ho3; clear hy3 ho3)
    go_ret
    exact ⟨A3, c3, rfl, HY3.out, HO3.out⟩
  by_cases h2 : k = 2
  · subst h2
    have hn : 0 ≤ n ∧ n ≤ 16777215 := by simpa [colorB] using hc
    obtain ⟨n0, n1⟩ := hn
    have m1 := and255 (n / 256) (by omega) (by omega)
    have m2 := and255 n (by omega) (by omega)
    have HL : Hid (Calls Tryd.prog 37 #[vb, .slice (some ⟨w.heap.size + 1, 0, none⟩) 5 5] ((w.alloc (.cells #[.int .i64 2, .int .i64 n] 27)).alloc (.cells #[.int .i64 which, .int .i64 2, .int .i64 (n / 65536), .int .i64 (n / 256 % 256), .int .i64 (n % 256)] 3)) fun e w' => ∃ A c, e = .returned (.slice A (layT T (colNums which 2 n)).length c) ∧ YR w0 w' (layT T (colNums which 2 n)) (.slice A (layT T (colNums which 2 n)).length c) ∧ Lib.OthersKept 5 none w w') := Lib.hid (by
      have h := lay_new w0 T vb [which, 2, n / 65536, n / 256 % 256, n % 256] 5 rfl (by decide) (w.alloc (.cells #[.int .i64 2, .int .i64 n] 27)) (HY.out.past ((Below.refl _ _).alloc (Nat.le_refl _) _)) (by simp; omega) hl hT
      rw [show (w.alloc (.cells #[.int .i64 2, .int .i64 n] 27)).heap.size = w.heap.size + 1 by simp] at h
      refine Calls.mono h ?_
      rintro e w' ⟨A, c, rfl, h1, h2⟩
      exact ⟨A, c, rfl, h1, ((Lib.OthersKept.refl _ _ w).alloc _).trans h2⟩)
    clear hY hc hl hT HY
    generalize layT T (colNums which 2 n) = T2 at *
    go_enter Tryd.func38, Tryd.ntmps38
    go_wp2_with (go_at_call 37; (with_reducible refine HL.out.mono ?_); rintro e w3 ⟨A3, c3, rfl, hy3, ho3⟩; have HY3 := Lib.hid hy3; have HO3 := Lib.hid ho3; clear hy3 ho3)
    go_ret
    exact ⟨A3, c3, rfl, HY3.out, HO3.out⟩
  have b1 : (k == 1) = false := by simpa using h1
  have b2 : (k == 2) = false := by simpa using h2
  have HE : Hid (layT T (colNums which k n) = T) := Lib.hid (by unfold colNums; rw [if_neg h1, if_neg h2]; rfl)
  rw [HE.out]
  obtain ⟨A0, c0, hv0, _⟩ := own_form hY.own
  subst hv0
  have HF : Hid (YR w0 (w.alloc (.cells #[.int .i64 k, .int .i64 n] 27)) T (.slice A0 T.length c0) ∧ Lib.OthersKept 5 none w (w.alloc (.cells #[.int .i64 k, .int .i64 n] 27))) := Lib.hid ⟨HY.out.past ((Below.refl _ _).alloc (Nat.le_refl _) _), (Lib.OthersKept.refl _ _ w).alloc _⟩
  clear h1 h2 hY hc hl hT HY
  go_enter Tryd.func38, Tryd.ntmps38
  go_wp2
  go_ret
  exact ⟨A0, c0, rfl, HF.out.1, HF.out.2⟩

/-- The numbers of the flags, as far as they have been looked at. -/
def flagNums (f : Int) (k : Nat) : List Int := ((turnsL.take k).filter fun r => bits .and .i64 f r.2.1 != 0).map (·.1)
set_option maxRecDepth 100000 in
theorem flagNums_step (f : Int) (k : Nat) (hk : k < 18) : flagNums f (k + 1) = flagNums f k ++ (if (bits .and .i64 f (rowOn k) != 0) = true then [rowN k] else []) := by
  have hl : turnsL.length = 18 := rfl
  unfold flagNums
  rw [List.take_succ_eq_append_getElem (by omega), List.filter_append, List.map_append]
  congr 1
  unfold rowOn rowN
  rw [List.getElem?_eq_getElem (by omega), Option.getD_some]
  rw [List.filter_cons]
  split <;> rfl
set_option maxRecDepth 100000 in
theorem rowN_range (k : Nat) (hk : k < 18) : 0 ≤ rowN k ∧ rowN k ≤ 55 := by
  rcases (by omega : k = 0 ∨ k = 1 ∨ k = 2 ∨ k = 3 ∨ k = 4 ∨ k = 5 ∨ k = 6 ∨ k = 7 ∨ k = 8 ∨ k = 9 ∨ k = 10 ∨ k = 11 ∨ k = 12 ∨ k = 13 ∨ k = 14 ∨ k = 15 ∨ k = 16 ∨ k = 17) with rfl | rfl | rfl | rfl | rfl | rfl | rfl | rfl | rfl | rfl | rfl | rfl | rfl | rfl | rfl | rfl | rfl | rfl <;> decide
set_option maxRecDepth 100000 in
theorem layT_one (T : List UInt8) (xs ys : List Int) : layT (layT T xs) ys = layT T (xs ++ ys) := by
  unfold layT
  rw [List.foldl_append]
/-- All the numbers of an attribute. -/
def numsP (a : AT) : List Int := 0 :: (flagNums a.fl 18 ++ colNums 38 a.fk a.fn ++ colNums 48 a.bk a.bn)

end Go.Proofs.YtlolbfbkoimjkaaDoor
