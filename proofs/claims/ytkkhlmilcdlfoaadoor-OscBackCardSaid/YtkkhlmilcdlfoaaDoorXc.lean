/- The walks of strconv.ParseUint, isPlain, percent, percented. -/
import Derived.Test.YtkkhlmilcdlfoaaDoorXb
import Derived.Test.YtkkhlmilcdlfoaaDoorXs
import Derived.Laws.IdiomStrings
namespace Go.Proofs.YtkkhlmilcdlfoaaDoor
open Go.RowKit

theorem idx_bs (l : List UInt8) (k : Nat) (z : UInt8) (h : l[k]? = some z) (W : World) : (Instr.index 9 (.string (bsB l)) (.int .i64 k)).run Tryd.prog W = .ok (.int .u8 z.toNat) W := by
  obtain ⟨hk, e⟩ := List.getElem?_eq_some_iff.1 h
  rw [run_index_string W 9 (bsB l) .i64 k Tryd.underlying9, dif_pos (by rw [bsB_size]; omega)]
  subst e
  rfl
theorem idx_u8 (l : List UInt8) (k : Nat) (z : UInt8) (h : l[k]? = some z) (W : World) : (Instr.index 9 (.string (bsB l)) (.int .u8 k)).run Tryd.prog W = .ok (.int .u8 z.toNat) W := by
  obtain ⟨hk, e⟩ := List.getElem?_eq_some_iff.1 h
  rw [run_index_string W 9 (bsB l) .u8 k Tryd.underlying9, dif_pos (by rw [bsB_size]; omega)]
  subst e
  rfl
theorem idx0_bs (c : UInt8) (l : List UInt8) (W : World) : (Instr.index 9 (.string (bsB (c :: l))) (.int .i64 0)).run Tryd.prog W = .ok (.int .u8 c.toNat) W := idx_bs (c :: l) 0 c rfl W
/-- The variable of the error is there. -/
def EV (w : World) : Prop := ∃ te pe, w.cell? ⟨0, 0, none⟩ = some (.iface te pe)
theorem EV.past {w w' : World} (h : EV w) (hb : Below w.heap.size w w') : EV w' := by
  obtain ⟨te, pe, h⟩ := h
  exact ⟨te, pe, (hb.cell (p := ⟨0, 0, none⟩) (Lib.lt_of_cell h)).trans h⟩
set_option maxRecDepth 100000 in
theorem parseUint_ok (l : List UInt8) (hl : l.length = 2) (x : Nat) (hx : hexN 0 l = some x) (w : World) :
    Calls Tryd.prog 52 #[.string (bsB l), .int .i64 16, .int .i64 8] w fun e w' => e = .returned (.tuple #[.int .u64 (x : Int), .nilIface]) ∧ Below w.heap.size w w' := by
  have HP := Lib.hid (parse16_any l hl w)
  rw [hx] at HP
  change Hid (Calls Tryd.prog 69 #[.string (bsB l), .int .i64 16, .int .i64 8] w fun e w' => e = .returned (.tuple #[.int .u64 (x : Int), .nilIface]) ∧ Below w.heap.size w w') at HP
  clear hx
  generalize bsB l = t at *
  go_enter Tryd.func52, Tryd.ntmps52
  go_wp2_with (go_at_call 69; (with_reducible refine (HP.out).mono ?_); rintro e w1 ⟨rfl, hb⟩; have HB1 := Lib.hid hb; clear hb)
  go_ret2
  exact ⟨rfl, HB1.out⟩
set_option maxRecDepth 100000 in
theorem parseUint_bad (l : List UInt8) (hl : l.length = 2) (hx : hexN 0 l = none) (w : World) (hE : EV w) :
    Calls Tryd.prog 52 #[.string (bsB l), .int .i64 16, .int .i64 8] w fun e w' => (∃ t p, e = .returned (.tuple #[.int .u64 0, .iface t p])) ∧ Below w.heap.size w w' := by
  have HP := Lib.hid (parse16_any l hl w)
  rw [hx] at HP
  change Hid (Calls Tryd.prog 69 #[.string (bsB l), .int .i64 16, .int .i64 8] w fun e w' => e = .returned (.tuple #[.int .u64 0, .iface 83 (.int .i64 2)]) ∧ Below w.heap.size w w') at HP
  have HT : Hid (∀ W, EV W → Calls Tryd.prog 56 #[.string ⟨#[80, 97, 114, 115, 101, 85, 105, 110, 116]⟩, .string (bsB l), .int .i64 16, .int .i64 8, .iface 83 (.int .i64 2)] W fun e w' => (∃ N : Nat, e = .returned (.iface 86 (.pointer (some ⟨N, 0, none⟩)))) ∧ Below W.heap.size W w') := Lib.hid fun W ⟨te, pe, hW⟩ =>
    (Tryd.strconv_toError_syntax _ _ _ _ _ W (by rw [bsB_size]; omega) hW (.inr ⟨te, pe, rfl⟩)).mono fun e w' ⟨N, h1, _, _, h2⟩ => ⟨⟨N, h1⟩, h2⟩
  have HE := Lib.hid hE
  clear hx hE
  generalize bsB l = t at *
  go_enter Tryd.func52, Tryd.ntmps52
  go_wp2_with (first
    | (go_at_call 69; (with_reducible refine (HP.out).mono ?_); rintro e w1 ⟨rfl, hb⟩; have HE1 := Lib.hid (HE.out.past hb); have HB1 := Lib.hid hb; clear hb)
    | (go_at_call 56; (with_reducible refine (HT.out _ HE1.out).mono ?_); rintro e w2 ⟨⟨N, rfl⟩, hb⟩; have HB2 := Lib.hid (bel0 HB1.out hb); clear hb))
  go_ret2
  exact ⟨⟨_, _, rfl⟩, HB2.out⟩
theorem hexN_two (a b : UInt8) : hexN 0 [a, b] = (hex2 a b).map (·.toNat) := by
  unfold hex2
  rw [hexN_cons]
  cases ha : hexV a with
  | none => rfl
  | some x =>
    show hexN (0 * 16 + x) [b] = _
    rw [hexN_cons]
    have := hexV_lt ha
    cases hb : hexV b with
    | none => rfl
    | some y =>
      have := hexV_lt hb
      show some ((0 * 16 + x) * 16 + y) = some (UInt8.ofNat (16 * x + y)).toNat
      rw [UInt8.toNat_ofNat_of_lt' (by show _ < 256; omega)]
      congr 1
      omega
/-- What percented answers. -/
def pcV (r : Option UInt8) : Value := match r with
  | some x => .tuple #[.int .u8 x.toNat, .bool true]
  | none => .tuple #[.int .u8 0, .bool false]
theorem pct1_short {l : List UInt8} (h : l.length < 3) : pct1 l = none := by
  match l, h with
  | [], _ => rfl
  | [_], _ => rfl
  | [_, _], _ => rfl
  | _ :: _ :: _ :: _, h => simp at h; omega
theorem pct1_37 (a b : UInt8) (r : List UInt8) : pct1 (37 :: a :: b :: r) = hex2 a b := by simp [pct1]
set_option maxRecDepth 100000 in
set_option maxHeartbeats 1000000 in
theorem percented_any (l : List UInt8) (hl : l.length ≤ 1000000) (w : World) (hE : EV w) :
    Calls Tryd.prog 82 #[.string (bsB l)] w fun e w' => e = .returned (pcV (pct1 l)) ∧ Below w.heap.size w w' := by
  by_cases h3 : l.length < 3
  · rw [pct1_short h3]
    have hs : ((bsB l).size : Int) < 3 := by rw [bsB_size]; omega
    clear h3 hl
    generalize bsB l = t at *
    go_enter Tryd.func82, Tryd.ntmps82
    go_wp2
    go_ret2
    exact ⟨rfl, Below.refl _ _⟩
  · match l, h3, hl with
    | [], h3, _ => exact absurd (by simp) h3
    | [_], h3, _ => exact absurd (by simp) h3
    | [_, _], h3, _ => exact absurd (by simp) h3
    | c :: a :: b :: r, h3, hl =>
      have hs : ¬ ((bsB (c :: a :: b :: r)).size : Int) < 3 := by rw [bsB_size]; simp; omega
      have i0 := idx0_bs c (a :: b :: r)
      have hx : (bsB (c :: a :: b :: r)).extract 1 3 = bsB [a, b] := by rw [bs_extract]; rfl
      by_cases hc : c = 37
      · subst hc
        change ∀ W, (Instr.index 9 (.string (bsB (37 :: a :: b :: r))) (.int .i64 0)).run Tryd.prog W = .ok (.int .u8 37) W at i0
        have hp : pct1 (37 :: a :: b :: r) = hex2 a b := pct1_37 a b r
        rw [hp]
        cases hq : hex2 a b with
        | some x =>
          have HP := Lib.hid (parseUint_ok [a, b] rfl x.toNat (by rw [hexN_two, hq]; rfl))
          have hx8 : x.toNat < 256 := x.toNat_lt
          show Calls _ _ _ _ fun e w' => e = .returned (.tuple #[.int .u8 x.toNat, .bool true]) ∧ _
          generalize x.toNat = xn at *
          clear hp hq h3 hE hl
          generalize bsB (37 :: a :: b :: r) = t at *
          generalize bsB [a, b] = u at *
          go_enter Tryd.func82, Tryd.ntmps82
          go_wp2_with (go_at_call 52; (with_reducible refine (HP.out _).mono ?_); rintro e w1 ⟨rfl, hb⟩; have HB1 := Lib.hid hb; clear hb)
          go_region
          simp only [Exit.then]
          go_wp2
          go_ret2
          exact ⟨rfl, HB1.out.drew⟩
        | none =>
          have HP := Lib.hid (parseUint_bad [a, b] rfl (by rw [hexN_two, hq]; rfl) w hE)
          show Calls _ _ _ _ fun e w' => e = .returned (.tuple #[.int .u8 0, .bool false]) ∧ _
          clear hp hq h3 hE hl
          generalize bsB (37 :: a :: b :: r) = t at *
          generalize bsB [a, b] = u at *
          go_enter Tryd.func82, Tryd.ntmps82
          go_wp2_with (go_at_call 52; (with_reducible refine (HP.out).mono ?_); rintro e w1 ⟨⟨t1, p1, rfl⟩, hb⟩; have HB1 := Lib.hid hb; clear hb)
          go_region
          simp only [Exit.then]
          go_wp2
          go_ret2
          exact ⟨rfl, HB1.out.drew⟩
      · have hp : pct1 (c :: a :: b :: r) = none := pct1_ne hc _
        rw [hp]
        have hcn : ((c.toNat : Int) != 37) = true := by
          have : c.toNat ≠ 37 := fun e => hc (UInt8.toNat_inj.1 e)
          simp; omega
        show Calls _ _ _ _ fun e w' => e = .returned (.tuple #[.int .u8 0, .bool false]) ∧ _
        clear hp hc h3 hE hl
        generalize bsB (c :: a :: b :: r) = t at *
        generalize c.toNat = cn at *
        go_enter Tryd.func82, Tryd.ntmps82
        go_wp2
        go_ret2
        exact ⟨rfl, Below.refl _ _⟩
theorem plain_idx : ∀ c : Fin 256, plB (UInt8.ofNat c.val) = (decide (97 ≤ c.val ∧ c.val ≤ 122) || decide (65 ≤ c.val ∧ c.val ≤ 90) || decide (48 ≤ c.val ∧ c.val ≤ 57) || decide (0 ≤ Lib.indexByte [45, 46, 95, 126, 47] (UInt8.ofNat c.val))) := by decide +kernel
theorem conv_row (T : List UInt8) (n : Nat) (hn : n = T.length) (W : World) (g : Nat) (A : Array Value) (hA : A = (T.map fun c => Value.int .u8 c.toNat).toArray) (hg : W.heap[g]? = some (.cells A 5 (0, 0))) : (Go.convert 46 9 (.slice (some ⟨g, 0, none⟩) n n)).run Tryd.prog W = .ok (.string (bsB T)) W := by
  subst hn hA
  exact run_convert_bytes_back (P := Tryd.prog) _ 46 9 5 ⟨g, 0, none⟩ _ T (by kernel_rfl) (by kernel_rfl) (by kernel_rfl) (fun j hj => by
    have ea : (⟨g, 0, none⟩ : Addr).add j = ⟨g, j, none⟩ := by
      unfold Addr.add
      split <;> simp_all
    rw [ea]
    have hc := cell_of_row _ _ j _ _ _ hg
    refine Eq.trans hc ?_
    simp [List.getElem?_eq_getElem hj])
theorem conv_new (T : List UInt8) (n : Nat) (hn : n = T.length) (w : World) (A : Array Value) (hA : A = (T.map fun c => Value.int .u8 c.toNat).toArray) : (Go.convert 46 9 (.slice (some ⟨w.heap.size, 0, none⟩) n n)).run Tryd.prog (w.alloc (.cells A 5)).drew = .ok (.string (bsB T)) (w.alloc (.cells A 5)).drew :=
  conv_row T n hn _ _ A hA (heap_alloc_new w _)
theorem conv_new0 (T : List UInt8) (n : Nat) (hn : n = T.length) (w : World) (A : Array Value) (hA : A = (T.map fun c => Value.int .u8 c.toNat).toArray) : (Go.convert 46 9 (.slice (some ⟨w.heap.size, 0, none⟩) n n)).run Tryd.prog (w.alloc (.cells A 5)) = .ok (.string (bsB T)) (w.alloc (.cells A 5)) :=
  conv_row T n hn _ _ A hA (heap_alloc_new w _)
theorem and_15 : ∀ c : Fin 256, bits .and .u8 (c.val : Int) 15 = ((c.val % 16 : Nat) : Int) := by decide +kernel
def hexLit : List UInt8 := [48, 49, 50, 51, 52, 53, 54, 55, 56, 57, 65, 66, 67, 68, 69, 70]
theorem hexLit_at : ∀ k : Fin 16, hexLit[k.val]? = some (hexU k.val) := by decide
end Go.Proofs.YtkkhlmilcdlfoaaDoor
