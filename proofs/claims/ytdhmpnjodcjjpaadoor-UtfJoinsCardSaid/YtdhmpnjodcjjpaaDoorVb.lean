/- The walk of the law UtfPuts. -/
import Derived.Test.YtdhmpnjodcjjpaaDoorUz
import Derived.Lib.ConvBytes
namespace Go.Proofs.YtdhmpnjodcjjpaaDoor
open Go.RowKit Go.Shelf

theorem strL_at (zs : List Nat) (hz : ∀ z ∈ zs, z < 256) (k : Nat) (hk : k < zs.length) : ((strL zs).data.toList.getD k 0).toNat = zs[k]?.getD 0 := by
  have := hz _ (List.getElem_mem hk)
  simp [strL, List.getD_eq_getElem?_getD, hk]
  omega
theorem strL_size (zs : List Nat) : (strL zs).size = zs.length := by simp [strL, ByteArray.size]
/-- '[]byte(s)': a row of the call's own. -/
theorem conv_bytes (zs : List Nat) (hz : ∀ z ∈ zs, z < 256) (hl : zs.length ≤ 100000) (W : World) :
    ∃ (c : Nat) (W' : World), (Go.convert 9 22 (.string (strL zs))).run Tryd.prog W = .ok (.slice (some ⟨W.heap.size, 0, none⟩) zs.length c) W' ∧ zs.length ≤ c ∧ c ≤ 9223372036854775807 ∧ BS W' W'.heap.size (some ⟨W.heap.size, 0, none⟩) zs ∧ Below W.heap.size W W' := by
  have hr := Lib.run_convert_string_bytes (P := Tryd.prog) W 9 22 5 (strL zs) Tryd.underlying9 Tryd.underlying22 Tryd.underlying5
  have hg := grownCap_ge W (strL zs).size 0 5
  have hm := grownCap_le_maxLen W (strL zs).size 0 5 (by rw [strL_size]; unfold maxLen; omega)
  have hsz := Lib.bytesWorld_size W 5 (strL zs)
  rw [strL_size] at hr hg hm
  refine ⟨_, _, hr, hg, hm, ⟨hz, fun _ => ⟨_, 0, rfl, by omega, fun k hk => ?_⟩⟩, ⟨rfl, rfl, rfl, by omega, fun i hi => Lib.bytesWorld_at_old W 5 (strL zs) i hi⟩⟩
  rw [Nat.zero_add, Lib.bytesWorld_cell W 5 (strL zs) k (by rw [strL_size]; exact hk), strL_at zs hz k hk]

set_option maxRecDepth 100000 in
set_option maxHeartbeats 4000000 in
theorem utfPuts_law (r : Int) (w : World) (h4 : max 0 1 + 1 ≤ w.heap.size) (hT : UT w) :
    Calls Tryd.prog 4 #[.int .i32 r] w fun e w' => e = .returned (.bool true) ∧ Below w.heap.size w w' := by
  have HA := awake_hid h4 hT
  have hsc := scalar_any r
  cases hs : scalarB r with
  | false =>
    rw [hs] at hsc
    have hp := put_no r hs
    clear hs hT h4
    go_enter Tryd.func4, Tryd.ntmps4
    go_wp2_with (first
      | (go_at_call 14; refine (hp _).mono ?_; rintro e w1 ⟨rfl, rfl⟩)
      | (go_at_call 15; refine (hsc _).mono ?_; rintro e w1 ⟨rfl, rfl⟩)
      | (go_at_call 10; refine (HA.out _ (Below.refl _ _)).mono ?_; rintro e w4 ⟨rfl, hb4⟩))
    go_ret
    exact ⟨rfl, hb4⟩
  | true =>
    rw [hs] at hsc
    have hp := put_yes r hs
    rw [enc_put r hs] at hp
    have hlen := putL_len r hs
    have hlt := putL_lt r
    obtain ⟨hr0, hr1⟩ := scalarB_bd hs
    have hal : allL (putL r) = [r.toNat] := by
      have := all_put r hs []
      rw [List.append_nil] at this
      rw [this]; rfl
    have HCV : Hid (∀ W, ∃ (c : Nat) (W' : World), (Go.convert 9 22 (.string (strL (putL r)))).run Tryd.prog W = .ok (.slice (some ⟨W.heap.size, 0, none⟩) (putL r).length c) W' ∧ (putL r).length ≤ c ∧ c ≤ 9223372036854775807 ∧ BS W' W'.heap.size (some ⟨W.heap.size, 0, none⟩) (putL r) ∧ Below W.heap.size W W') := Lib.hid fun W => conv_bytes (putL r) hlt (by omega) W
    have HPut : Hid (∀ W, Calls Tryd.prog 16 #[.int .i32 r] W fun e w' => (∃ A c, e = .returned (.slice A (putL r).length c) ∧ (Go.convert 22 9 (.slice A (putL r).length c)).run Tryd.prog w' = .ok (.string (strL (putL r))) w') ∧ Below W.heap.size W w') := Lib.hid fun W => (refput_any r W).mono (by
      rintro e w' ⟨A', c', rfl, hb, hB⟩
      exact ⟨⟨A', c', rfl, conv_str _ c' rfl hb⟩, hB⟩)
    have HALL : Hid (∀ (W : World) (A : Option Addr) (c : Nat), Below w.heap.size w W → (putL r).length ≤ c → c ≤ 9223372036854775807 → BS W W.heap.size A (putL r) → Calls Tryd.prog 12 #[.slice A (putL r).length c] W fun e w' => (∃ A c, e = .returned (.slice A 1 c) ∧ RS w' w'.heap.size A [r]) ∧ Below W.heap.size W w') := Lib.hid fun W A c hW hc hc' hb => by
      refine (all_rs A (putL r) _ c rfl (by omega) hc hc' W (Nat.le_trans h4 hW.size) (hT.below hW) hb).mono ?_
      rintro e w' ⟨A', c', rfl, hr, hb'⟩
      rw [hal] at hr ⊢
      have e0 : intsOf [r.toNat] = [r] := by simp [intsOf]; omega
      rw [e0] at hr
      exact ⟨⟨A', c', rfl, hr⟩, hb'⟩
    have HSM : Hid (∀ (W : World) (A : Option Addr) (c : Nat), RS W W.heap.size A [r] → Calls Tryd.prog 11 #[.slice A 1 c, .slice (some ⟨W.heap.size, 0, none⟩) 1 1] (W.alloc (.cells #[.int .i32 r] 21)) fun e w' => e = .returned (.bool true) ∧ Below (W.alloc (.cells #[.int .i32 r] 21)).heap.size (W.alloc (.cells #[.int .i32 r] 21)) w') := Lib.hid fun W A c hr => by
      have ha : Below W.heap.size W (W.alloc (.cells #[.int .i32 r] 21)) := (Below.refl _ _).alloc (Nat.le_refl _) _
      have := same_any A (some ⟨W.heap.size, 0, none⟩) [r] [r] 1 1 c 1 rfl rfl (by omega) (W.alloc (.cells #[.int .i32 r] 21)) ((hr.below ha).more ha.size) (rs_new W [r])
      rw [sameB_refl] at this
      exact this
    clear hs hT h4 hal hlen hlt hr0 hr1
    generalize putL r = pl at *
    generalize pl.length = m at *
    go_enter Tryd.func4, Tryd.ntmps4
    go_wp2_with (first
      | (go_at_call 14; refine (hp _).mono ?_; rintro e w1 ⟨rfl, rfl⟩)
      | (go_at_call 15; refine (hsc _).mono ?_; rintro e w1 ⟨rfl, rfl⟩)
      | (go_at_call 16; (with_reducible refine (HPut.out _).mono ?_); rintro e w6 ⟨⟨A6, c6, rfl, hcv6⟩, hb6⟩; obtain ⟨c7, w7, hcv7, hl7, hm7, hbs7, hb7⟩ := HCV.out w6; have HX7 := Lib.hid (And.intro hl7 (And.intro hm7 (And.intro hbs7 (bel0 hb6 hb7)))); clear hl7 hm7 hbs7 hb7)
      | (go_at_call 12; (with_reducible refine (HALL.out _ _ _ HX7.out.2.2.2 HX7.out.1 HX7.out.2.1 HX7.out.2.2.1).mono ?_); rintro e w8 ⟨⟨A8, c8, rfl, hr8⟩, hb8⟩; have HR8 := Lib.hid hr8; clear hr8; have HB8 := Lib.hid (bel0 HX7.out.2.2.2 hb8); clear hb8)
      | (go_at_call 11; (with_reducible refine (HSM.out _ _ _ HR8.out).mono ?_); rintro e w9 ⟨rfl, hb9⟩; have HB9 := Lib.hid (bel1 HB8.out hb9); clear hb9)
      | (go_at_call 10; refine (HA.out _ HB9.out).mono ?_; rintro e w4 ⟨rfl, hb4⟩))
    go_ret
    exact ⟨rfl, bel0 HB9.out hb4⟩

end Go.Proofs.YtdhmpnjodcjjpaaDoor
