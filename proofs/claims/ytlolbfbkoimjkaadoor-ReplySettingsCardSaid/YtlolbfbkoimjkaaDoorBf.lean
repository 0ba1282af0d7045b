/- The walk of lay. -/
import Derived.Test.YtlolbfbkoimjkaaDoorAl
import Derived.Lib.OthersKept
namespace Go.Proofs.YtlolbfbkoimjkaaDoor
open Go.RowKit

/-- A row of bytes of the call's own. -/
structure YR (w0 W : World) (T : List UInt8) (v : Value) : Prop where
  below : Below w0.heap.size w0 W
  own : W.ownsRow w0.heap.size 5 1 v T.length (Lib.byteCells T)
set_option maxRecDepth 100000 in
theorem YR.past {w0 W W' : World} {T : List UInt8} {v : Value} (h : YR w0 W T v) (hb : Below W.heap.size W W') : YR w0 W' T v := ⟨bel0 h.below hb, own_past h.own hb⟩
/-- What is laid behind T. -/
def layT (T : List UInt8) (xs : List Int) : List UInt8 := xs.foldl (fun T z => (if T = [] then [] else T ++ [59]) ++ Lib.itoa z) T
set_option maxRecDepth 100000 in
theorem layT_snoc (T : List UInt8) (xs : List Int) (z : Int) : layT T (xs ++ [z]) = (if layT T xs = [] then [] else layT T xs ++ [59]) ++ Lib.itoa z := by
  unfold layT
  rw [List.foldl_append]
  rfl
def LayPost (w0 w : World) (T : List UInt8) (e : Ending) (w' : World) : Prop := ∃ A c, e = .returned (.slice A T.length c) ∧ YR w0 w' T (.slice A T.length c) ∧ Lib.OthersKept 5 none w w'
set_option maxRecDepth 100000 in
theorem YR.push {w0 W w5 : World} {T : List UInt8} {v v2 : Value} {o : Obj} {x : UInt8} (h : YR w0 W T v) (h2 : w5.ownsRow w0.heap.size 5 1 v2 (T.length + 1) (Lib.byteCells T ++ [.int .u8 x.toNat])) (hg : (W.alloc o).grownBy w5 v.ownBlock) :
    YR w0 w5 (T ++ [x]) v2 ∧ Lib.OthersKept 5 none W w5 := by
  have hb : Below w0.heap.size w0 (W.alloc o) := belA h.below o
  refine ⟨⟨hb.grown hg hb.size (fun k e => (h.own.lt k e).1), ?_⟩, ((Lib.OthersKept.refl _ _ W).alloc o).grown hg (fun g hg' => ?_)⟩
  · rw [List.length_append, Lib.byteCells, List.map_append]
    exact h2
  · obtain ⟨cur, hc⟩ := own_type (h.own.alloc o) hg'
    exact ⟨cur, _, hc⟩
set_option maxRecDepth 100000 in
theorem itoa_y {w0 W : World} {T : List UInt8} {v : Value} (z : Int) (h0 : 0 ≤ z) (h1 : z ≤ 16777216) (h : YR w0 W T v) (hl : T.length ≤ 100000) (hT : T10 w0.heap.size w0) :
    Calls Tryd.prog 50 #[v, .int .i64 z, .int .i64 10] W (LayPost w0 W (T ++ Lib.itoa z)) := by
  refine (Tryd.strconv_AppendInt_10 w0.heap.size T.length z (by omega) (by omega) v (Lib.byteCells T) W h.own h.below.size (by omega) (hT.on h.below (Nat.le_refl _))).mono ?_
  rintro e w' ⟨v', rfl, ho, hb, hk⟩
  obtain ⟨A, c, rfl, _⟩ := own_form ho
  rw [← List.length_append] at ho ⊢
  refine ⟨A, c, rfl, ⟨h.below.trans hb, ?_⟩, hk⟩
  rw [Lib.byteCells, List.map_append]
  exact ho

set_option maxHeartbeats 4000000 in
set_option maxRecDepth 100000 in
theorem lay_any (w0 : World) (T : List UInt8) (vb : Value) (g : Nat) (xs : List Int) (m c : Nat) (hm : m = xs.length) (hm5 : m ≤ 5) (w : World) (hY : YR w0 w T vb) (hx : w.heap[g]? = some (.cells (xs.map (Value.int .i64)).toArray 3 (0, 0))) (hr : ∀ z ∈ xs, 0 ≤ z ∧ z ≤ 16777216) (hl : T.length ≤ 1000) (hT : T10 w0.heap.size w0) :
    Calls Tryd.prog 37 #[vb, .slice (some ⟨g, 0, none⟩) m c] w (LayPost w0 w (layT T xs)) := by
  obtain ⟨i0, hi0, hz0, hz1, hz2⟩ := info_parts Tryd.infoU8
  obtain ⟨A0, c0, hv0, _⟩ := own_form hY.own
  subst hv0
  have HM := Lib.hid hm
  have HX := Lib.hid hx
  have HR := Lib.hid hr
  have HY := Lib.hid hY
  have HT := Lib.hid hT
  have hmi : (m : Int) ≤ 5 := by omega
  have hli : T.length ≤ 1000 := hl
  have HFIN : Hid (∀ W A n' c', YR w0 W (layT T xs) (.slice A n' c') → n' = (layT T xs).length → Lib.OthersKept 5 none w W → LayPost w0 w (layT T xs) (.returned (.slice A n' c')) W) := Lib.hid fun W A n' c' h e h2 => by subst e; exact ⟨A, c', rfl, h, h2⟩
  clear hm hx hr hY hT hl
  go_enter Tryd.func37, Tryd.ntmps37
  go_wp2
  go_loopw [0, 9] (fun bb ii wr => ∃ (k n' : Nat) (T' : List UInt8) (A : Option Addr) (c' : Nat), k ≤ m ∧ ii = .int .i64 k ∧ bb = .slice A n' c' ∧ n' ≤ 1000 + 25 * k ∧ Hid (n' = T'.length) ∧ Hid (T' = layT T (xs.take k)) ∧ Hid (YR w0 wr T' (.slice A n' c')) ∧ Hid (Lib.OthersKept 5 none w wr)) (fun _ ii _ => m - (intOf ii).toNat)
  case atStart => exact ⟨0, _, T, _, _, Nat.zero_le _, rfl, rfl, by omega, Lib.hid rfl, Lib.hid rfl, HY, Lib.hid (Lib.OthersKept.refl _ _ _)⟩
  case round =>
    clear HY hli
    obtain ⟨k, n', T', A, c', hk, rfl, rfl, hn', HN, HTT, HY, HO⟩ := hrel
    by_cases hlt : k < m
    · have hki : (k : Int) < m := by omega
      have hkx : k < xs.length := by have := HM.out; omega
      have hck : wr.cell? ⟨g, k, none⟩ = some (.int .i64 (xs[k]?.getD 0)) := by
        rw [cell_of_row _ _ _ _ _ _ (HO.out g _ HX.out (by simp) (fun c fz e => by cases e))]
        simp [hkx]
      have hrk := HR.out (xs[k]?.getD 0) (by rw [List.getElem?_eq_getElem hkx]; exact List.getElem_mem hkx)
      have HNX : Hid (layT T (xs.take (k + 1)) = (if T' = [] then [] else T' ++ [59]) ++ Lib.itoa (xs[k]?.getD 0)) := Lib.hid (by rw [take_snocI xs k hkx, layT_snoc, ← HTT.out])
      have hil := Lib.itoa_length_le (xs[k]?.getD 0) (by omega) (by omega)
      have HCALL : Hid (∀ W T A n c, YR w0 W T (.slice A n c) → T.length ≤ 100000 → Calls Tryd.prog 50 #[.slice A n c, .int .i64 (xs[k]?.getD 0), .int .i64 10] W (LayPost w0 W (T ++ Lib.itoa (xs[k]?.getD 0)))) := Lib.hid fun W T A n c h hl => itoa_y _ hrk.1 hrk.2 h hl HT.out
      clear HTT hrk hkx
      unfold LayPost at HCALL
      generalize xs[k]?.getD 0 = x at *
      generalize Lib.itoa x = U at *
      by_cases h0 : n' = 0
      · subst h0
        have hT0 : T' = [] := List.eq_nil_of_length_eq_zero HN.out.symm
        subst hT0
        have HE : Hid (layT T (xs.take (k + 1)) = U) := Lib.hid (by rw [HNX.out, if_pos rfl]; rfl)
        have HC0 : Hid (Calls Tryd.prog 50 #[.slice A 0 c', .int .i64 x, .int .i64 10] wr fun e w' => ∃ A c, e = .returned (.slice A U.length c) ∧ YR w0 w' U (.slice A U.length c) ∧ Lib.OthersKept 5 none wr w') := Lib.hid (HCALL.out wr [] A 0 c' HY.out (by simp))
        clear HNX HCALL HN
        go_wp2_with (go_at_call 50; (with_reducible refine HC0.out.mono ?_); rintro e w7 ⟨A7, c7, rfl, hy7, ho7⟩; have HY7 := Lib.hid hy7; have HO7 := Lib.hid (HO.out.trans ho7); clear hy7 ho7)
        go_roundw
        case rel => exact ⟨k + 1, _, U, _, _, hlt, by go_num, rfl, by omega, Lib.hid rfl, Lib.hid HE.out.symm, HY7, HO7⟩
        case measure => simp [intOf]; omega
      · have hT0 : T' ≠ [] := fun e => h0 (by rw [HN.out, e]; rfl)
        have hd : decide ((n' : Int) > 0) = true := decide_eq_true (by omega)
        have hd2 : (0 : Int) < n' := by omega
        have HE : Hid (layT T (xs.take (k + 1)) = (T' ++ [59]) ++ U) := Lib.hid (by rw [HNX.out, if_neg hT0])
        have HGR : Hid (∀ w5 v2, (wr.alloc (.cells #[.int .u8 59] 5)).grownBy w5 (Value.slice A n' c').ownBlock → w5.ownsRow w0.heap.size 5 1 v2 (n' + 1) (Lib.byteCells T' ++ [.int .u8 59]) → YR w0 w5 (T' ++ [59]) v2 ∧ Lib.OthersKept 5 none w w5) := Lib.hid fun w5 v2 hg h2 => by
          have := HY.out.push (x := 59) (by rw [← HN.out]; exact h2) hg
          exact ⟨this.1, HO.out.trans this.2⟩
        have HOWN : Hid (∀ b, (wr.alloc b).ownsRow w0.heap.size 5 1 (.slice A n' c') n' (Lib.byteCells T')) := Lib.hid fun b => by
          have := HY.out.own.alloc b
          rwa [← HN.out] at this
        have hbs := HY.out.below.size
        have HL : Hid ((T' ++ [59]).length = n' + 1) := Lib.hid (by rw [List.length_append, HN.out]; rfl)
        have HLU : Hid (((T' ++ [59]) ++ U).length ≤ 1000 + 25 * (k + 1)) := Lib.hid (by rw [List.length_append, HL.out]; omega)
        clear HNX HN hT0 h0
        generalize T' ++ [59] = T2 at *
        have HC2 : Hid (∀ W A n c, YR w0 W T2 (.slice A n c) → Calls Tryd.prog 50 #[.slice A n c, .int .i64 x, .int .i64 10] W fun e w' => ∃ A c, e = .returned (.slice A (T2 ++ U).length c) ∧ YR w0 w' (T2 ++ U) (.slice A (T2 ++ U).length c) ∧ Lib.OthersKept 5 none W w') := Lib.hid fun W A n c h => HCALL.out W T2 A n c h (by rw [HL.out]; omega)
        clear HCALL
        generalize T2 ++ U = TU at *
        generalize Lib.byteCells T' = TL at *
        go_wp2_with (first
          | (at_builtin; go_must (refine wpList_append_own _ rfl _ _ 59 rfl w0.heap.size 5 i0 (.int .u8 0) 1 1 Tryd.underlying59 hi0 hz0 hz1 hz2 rfl (by decide) (.slice A n' c') n' TL rfl (HOWN.out _) ⟨wr.heap.size, 0, none⟩ 1 1 [.int .u8 59] rfl rfl (news1 _ _ _) (by simp [Value.oneCell']) (by unfold maxLen; omega) (by omega) (by simp; omega) ?_; intro v2 w5 hown2 hgrow2 _; obtain ⟨A5, c5, rfl, _⟩ := own_form hown2; have HY5 := Lib.hid (HGR.out w5 _ hgrow2 hown2); clear hown2 hgrow2))
          | (go_at_call 50; (with_reducible refine (HC2.out _ _ _ _ HY5.out.1).mono ?_); rintro e w7 ⟨A7, c7, rfl, hy7, ho7⟩; have HY7 := Lib.hid hy7; have HO7 := Lib.hid (HY5.out.2.trans ho7); clear hy7 ho7))
        go_roundw
        case rel => exact ⟨k + 1, _, TU, _, _, hlt, by go_num, rfl, HLU.out, Lib.hid rfl, Lib.hid HE.out.symm, HY7, HO7⟩
        case measure => simp [intOf]; omega
    · obtain rfl : k = m := by omega
      have HE : Hid (T' = layT T xs) := Lib.hid (by rw [HTT.out, List.take_of_length_le (by have := HM.out; omega)])
      go_wp2
      go_ret
      exact HFIN.out _ _ _ _ (by rw [← HE.out]; exact HY.out) (by rw [← HE.out]; exact HN.out) HO.out

end Go.Proofs.YtlolbfbkoimjkaaDoor
