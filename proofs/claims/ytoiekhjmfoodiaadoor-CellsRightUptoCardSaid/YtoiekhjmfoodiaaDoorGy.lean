/- Awake; the law CellsBlanks. -/
import Derived.Test.YtoiekhjmfoodiaaDoorGv
import Derived.Test.YtoiekhjmfoodiaaDoorGx
import Derived.Test.YtoiekhjmfoodiaaDoorGm
namespace Go.Proofs.YtoiekhjmfoodiaaDoor
open Go.RowKit

def xA : CC := ⟨12354, ⟨#[]⟩, 0, 0, 0, 0, 0, 0⟩
def bA : CC := blankC 0 0
def rowA : List CC := [bA, leftC xA, rightC xA, bA, bA]
theorem mendL_two (x y : CC) (t : List CC) : mendL (x :: y :: t) = if pairB x y = true then x :: y :: mendL t else (if x.h = 0 then x else bare x) :: mendL (y :: t) := by
  rw [mendL]
theorem mend0 : mendL (List.replicate 5 bA) = List.replicate 5 bA := mendL_plain _ fun x hx => by
  rw [(List.mem_replicate.1 hx).2]
  rfl
theorem putA : ((mendL (List.replicate 5 bA)).set 1 (leftC xA)).set 2 (rightC xA) = rowA := by rw [mend0]; rfl
theorem pA0 : pairB bA (leftC xA) = false := rfl
theorem pA1 : pairB (leftC xA) (rightC xA) = true := by
  show (true && eqC (rightC xA) (rightC xA)) = true
  rw [eqC_self]
  rfl
theorem mend1 : mendL rowA = rowA := by
  show mendL (bA :: leftC xA :: [rightC xA, bA, bA]) = _
  rw [mendL_two, if_neg (by rw [pA0]; decide), if_pos (show bA.h = 0 from rfl), mendL_two, if_pos pA1, mendL_plain [bA, bA] (fun x hx => by simp at hx; rw [hx]; rfl)]
  rfl
def ersA : List CC := [bA, bare (leftC xA), bA, bA, bA]
theorem ers1 : eraseL rowA 2 3 bA = ersA := by
  unfold eraseL
  rw [if_pos (by decide), mend1]
  show mendL (bA :: leftC xA :: [bA, bA, bA]) = _
  rw [mendL_two, if_neg (by rw [pA0]; decide), if_pos (show bA.h = 0 from rfl), mendL_two, if_neg (by decide), if_neg (by decide), mendL_plain [bA, bA, bA] (fun x hx => by simp at hx; rw [hx]; rfl)]
  rfl
theorem usedA : usedL rowA = 3 := rfl
theorem usedE : usedL ersA = 0 := rfl
theorem textA : (⟨(txtTo rowA (usedL rowA)).toArray⟩ : ByteArray) = ⟨#[32, 227, 129, 130]⟩ := by kernel_rfl
theorem fewA : fewMarks rowA := fun k hk => by
  match k, hk with
  | 0, _ => decide
  | 1, _ => decide
  | 2, _ => decide
  | 3, _ => decide
  | 4, _ => decide
theorem ofA : ofZ 12354 = 2 := by decide
set_option maxRecDepth 100000 in
set_option maxHeartbeats 4000000 in
theorem awake_any (w : World) (hT : WT w) : Calls Tryd.prog 8 #[] w fun e w' => e = .returned (.bool true) ∧ Below w.heap.size w w' := by
  have H1 : Hid (Calls Tryd.prog 18 #[.int .i64 5, .agg #[.int .i64 0, .int .i64 0]] w fun e w' => ∃ g c, e = .returned (.slice (some ⟨g, 0, none⟩) 5 c) ∧ RC w' w'.heap.size (some ⟨g, 0, none⟩) (List.replicate 5 bA) ∧ Below w.heap.size w w') := Lib.hid <| (blanks_any 5 0 0 5 (by decide) w).mono fun e w' ⟨v, he, ho, hb⟩ => by
    obtain ⟨g, c, hv, _, _, hm⟩ := ho.some (by decide)
    exact ⟨g, c, by rw [he, hv]; rfl, hm.rc, hb⟩
  have H2 : Hid (∀ W g c, Below w.heap.size w W → RC W W.heap.size (some ⟨g, 0, none⟩) (List.replicate 5 bA) → Calls Tryd.prog 22 #[.slice (some ⟨g, 0, none⟩) 5 c, .int .i64 1, .int .i32 12354, .agg #[.int .i64 0, .int .i64 0, .int .i64 0, .int .i64 0, .int .i64 0]] W fun e w' => ∃ g' c', e = .returned (.slice (some ⟨g', 0, none⟩) 5 c') ∧ 5 ≤ c' ∧ RC w' w'.heap.size (some ⟨g', 0, none⟩) rowA ∧ Below w.heap.size w w') := Lib.hid fun W g c hW hR => by
    have h := put_in (some ⟨g, 0, none⟩) (List.replicate 5 bA) (((mendL (List.replicate 5 bA)).set 1 (leftC xA)).set 2 (rightC xA)) 5 c 1 xA (by simp) (by decide) (by decide) (by simp [mendL_len]) W (hT.below hW) hR (fun V P1 P2 P3 P4 hp V2 g2 c2 hb2 _ hm2 => putFn_two g2 5 c2 1 P1 P2 P3 P4 _ xA (by simp [mendL_len]) (by decide) (by decide) V2 hm2 (by have := hp.past hb2; rwa [show ofZ xA.r = 2 from ofA] at this))
    rw [putA, mend1] at h
    refine h.mono fun e w' ⟨v, he, ho, hb⟩ => ?_
    obtain ⟨g', c', hv, _, hc, hm⟩ := ho.some (by decide)
    exact ⟨g', c', by rw [he, hv]; rfl, hc, hm.rc, bel0 hW hb⟩
  have H3 : Hid (∀ W g c, 5 ≤ c → Below w.heap.size w W → RC W W.heap.size (some ⟨g, 0, none⟩) rowA → Calls Tryd.prog 16 #[.slice (some ⟨g, 0, none⟩) 5 c] W fun e w' => e = .returned (.string ⟨#[32, 227, 129, 130]⟩) ∧ RC w' w'.heap.size (some ⟨g, 0, none⟩) rowA ∧ Below w.heap.size w w') := Lib.hid fun W g c hc hW hR => by
    have h := textRow_any (some ⟨g, 0, none⟩) rowA 5 c rfl (by decide) (by decide) hc fewA W hR
    rw [textA] at h
    exact h.mono fun e w' ⟨he, hb⟩ => ⟨he, hR.past hb, bel0 hW hb⟩
  have H4 : Hid (∀ W g c, Below w.heap.size w W → RC W W.heap.size (some ⟨g, 0, none⟩) rowA → Calls Tryd.prog 23 #[.slice (some ⟨g, 0, none⟩) 5 c, .int .i64 2, .int .i64 3, .agg #[.int .i64 0, .int .i64 0]] W fun e w' => ∃ g' c', e = .returned (.slice (some ⟨g', 0, none⟩) 5 c') ∧ RC w' w'.heap.size (some ⟨g', 0, none⟩) ersA ∧ Below w.heap.size w w') := Lib.hid fun W g c hW hR => by
    have h := erase_any (some ⟨g, 0, none⟩) rowA 5 c 2 3 2 3 0 0 rfl (by decide) (by decide) (by decide) W hR
    rw [show blankC 0 0 = bA from rfl, ers1] at h
    refine h.mono fun e w' ⟨v, he, ho, hb⟩ => ?_
    obtain ⟨g', c', hv, _, _, hm⟩ := ho.some (by decide)
    exact ⟨g', c', by rw [he, hv]; rfl, hm.rc, bel0 hW hb⟩
  have H5 : Hid (∀ W g c, Below w.heap.size w W → RC W W.heap.size (some ⟨g, 0, none⟩) ersA → Calls Tryd.prog 14 #[.slice (some ⟨g, 0, none⟩) 5 c] W fun e w' => e = .returned (.int .i64 0) ∧ Below w.heap.size w w') := Lib.hid fun W g c hW hR => by
    have h := used_any (some ⟨g, 0, none⟩) ersA 5 c rfl (by decide) W hR
    rw [usedE] at h
    exact h.mono fun e w' ⟨he, hb⟩ => ⟨he, bel0 hW hb⟩
  clear hT
  generalize rowA = l1 at *
  generalize ersA = l2 at *
  generalize List.replicate 5 bA = l0 at *
  go_enter Tryd.func8, Tryd.ntmps8
  go_wp2_with (first
    | (go_at_call 18; (with_reducible refine (H1.out).mono ?_); rintro e w1 ⟨g1, c1, rfl, hr, hb⟩; have HB1 := Lib.hid hb; have HR1 := Lib.hid hr; clear hb hr)
    | (go_at_call 22; (with_reducible refine (H2.out _ _ _ HB1.out HR1.out).mono ?_); rintro e w2 ⟨g2, c2, rfl, hc, hr, hb⟩; have HB2 := Lib.hid hb; have HR2 := Lib.hid hr; have HC2 := Lib.hid hc; clear hb hr hc)
    | (go_at_call 16; (with_reducible refine (H3.out _ _ _ HC2.out HB2.out HR2.out).mono ?_); rintro e w3 ⟨rfl, hr, hb⟩; have HB3 := Lib.hid hb; have HR3 := Lib.hid hr; clear hb hr)
    | (go_at_call 23; (with_reducible refine (H4.out _ _ _ HB3.out HR3.out).mono ?_); rintro e w4 ⟨g4, c4, rfl, hr, hb⟩; have HB4 := Lib.hid hb; have HR4 := Lib.hid hr; clear hb hr)
    | (go_at_call 14; (with_reducible refine (H5.out _ _ _ HB4.out HR4.out).mono ?_); rintro e w5 ⟨rfl, hb⟩; have HB5 := Lib.hid hb; clear hb))
  go_ret
  exact ⟨rfl, HB5.out⟩
set_option maxRecDepth 100000 in
set_option maxHeartbeats 4000000 in
theorem blanks_law (z k n : Int) (w : World) (hT : WT w) : Calls Tryd.prog 6 #[.int .i64 z, .agg #[.int .i64 k, .int .i64 n]] w fun e w' => e = .returned (.bool true) ∧ Below w.heap.size w w' := by
  obtain ⟨m, hm⟩ : ∃ m : Nat, max (min z 1000) 0 = (m : Int) := ⟨(max (min z 1000) 0).toNat, by omega⟩
  have hm1 : m ≤ 1000 := by omega
  have hb0 := belA (Below.refl w.heap.size w) (.cells #[.int .i64 k, .int .i64 n] 32)
  have hx := heap_alloc_new w (.cells #[.int .i64 k, .int .i64 n] 32)
  have hsz : (w.alloc (.cells #[.int .i64 k, .int .i64 n] 32)).heap.size = w.heap.size + 1 := by simp
  generalize HW0 : w.alloc (.cells #[.int .i64 k, .int .i64 n] 32) = w0 at *
  have HE := Lib.hid HW0
  have HC0 : Hid (∀ W, Below w0.heap.size w0 W → W.cell? ⟨w.heap.size, 0, none⟩ = some (.int .i64 k) ∧ W.cell? ⟨w.heap.size, 1, none⟩ = some (.int .i64 n)) := Lib.hid fun W hW => by
    have hbx := (hW.block w.heap.size (by omega)).trans hx
    exact ⟨cell_of_row _ _ 0 _ _ _ hbx, cell_of_row _ _ 1 _ _ _ hbx⟩
  have HB0 := Lib.hid hb0
  have H1 : Hid (Calls Tryd.prog 18 #[.int .i64 z, .agg #[.int .i64 k, .int .i64 n]] w0 fun e w' => ∃ A c, e = .returned (.slice A m c) ∧ RC w' w'.heap.size A (List.replicate m (blankC k n)) ∧ Below w0.heap.size w0 w') := Lib.hid <| (blanks_any z k n m hm w0).mono fun e w' ⟨v, he, ho, hb⟩ => by
    obtain ⟨A, c, hv, hr⟩ := ho.form
    exact ⟨A, c, by rw [he, hv, List.length_replicate], hr, hb⟩
  have H2 : Hid (∀ W, Calls Tryd.prog 20 #[.int .i64 z, .agg #[.int .i64 k, .int .i64 n]] W fun e w' => ∃ A c, e = .returned (.slice A m c) ∧ RC w' w'.heap.size A (List.replicate m (blankC k n)) ∧ Below W.heap.size W w') := Lib.hid fun W => (refBlanks_any z k n m hm W).mono fun e w' ⟨v, he, ho, hb⟩ => by
    obtain ⟨A, c, hv, hr⟩ := ho.form
    exact ⟨A, c, by rw [he, hv, List.length_replicate], hr, hb⟩
  have H3 : Hid (∀ W A A' c c', RC W W.heap.size A (List.replicate m (blankC k n)) → RC W W.heap.size A' (List.replicate m (blankC k n)) → Calls Tryd.prog 11 #[.slice A m c, .slice A' m c'] W fun e w' => e = .returned (.bool true) ∧ Below W.heap.size W w') := Lib.hid fun W A A' c c' h h' => by
    have h1 := same7C_any A A' _ _ m m c c' (by simp) (by simp) (by omega) W h h'
    rwa [sameC_self] at h1
  have H4 : Hid (∀ W A c, RC W W.heap.size A (List.replicate m (blankC k n)) → Calls Tryd.prog 9 #[.slice A m c] W fun e w' => e = .returned (.bool true) ∧ Below W.heap.size W w') := Lib.hid fun W A c h => rightBlanks_any k n m hm1 A c W h
  have H5 : Hid (∀ W, Below w.heap.size w W → Calls Tryd.prog 8 #[] W fun e w' => e = .returned (.bool true) ∧ Below W.heap.size W w') := Lib.hid fun W hW => awake_any W (hT.below hW)
  clear hm hm1 hT hb0 hx hsz HW0
  generalize List.replicate m (blankC k n) = L at *
  go_enter Tryd.func6, Tryd.ntmps6
  go_wp2_with (first
    | (go_at_call 18; rw [HE.out]; (with_reducible refine (H1.out).mono ?_); rintro e w1 ⟨A1, c1, rfl, hr, hb⟩; have HR1 := Lib.hid hr; have HB1 := Lib.hid (bel0 HB0.out hb); obtain ⟨d0, d1⟩ := HC0.out _ hb; clear hb hr)
    | (go_at_call 20; (with_reducible refine (H2.out _).mono ?_); rintro e w2 ⟨A2, c2, rfl, hr, hb⟩; have HR2 := Lib.hid hr; have HB2 := Lib.hid (bel0 HB1.out hb); have HR1b := Lib.hid (HR1.out.past hb); clear hb hr d0 d1)
    | (go_at_call 11; (with_reducible refine (H3.out _ _ _ _ _ HR1b.out HR2.out).mono ?_); rintro e w3 ⟨rfl, hb⟩; have HB3 := Lib.hid (bel0 HB2.out hb); have HR3 := Lib.hid (HR1b.out.past hb); clear hb)
    | (go_at_call 9; (with_reducible refine (H4.out _ _ _ HR3.out).mono ?_); rintro e w4 ⟨rfl, hb⟩; have HB4 := Lib.hid (bel0 HB3.out hb); clear hb)
    | (go_at_call 8; (with_reducible refine (H5.out _ HB4.out).mono ?_); rintro e w5 ⟨rfl, hb⟩; have HB5 := Lib.hid (bel0 HB4.out hb); clear hb))
  go_ret
  exact ⟨rfl, HB5.out⟩
end Go.Proofs.YtoiekhjmfoodiaaDoor
