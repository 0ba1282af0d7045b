/- The walk of the law TabsPlays. -/
import Derived.Test.YtabipecpkbjdkaaTo
namespace Go.Proofs.Ytabipecpkbjdkaa
open Go.RowKit

/-- A slice of calls that came in. -/
def RO (w : World) (B : Nat) (A : Option Addr) (xs : List (Int × Int)) : Prop :=
  xs ≠ [] → ∃ b off, A = some ⟨b, off, none⟩ ∧ b < B ∧ ∀ k, k < xs.length → w.cell? ⟨b, off + k * 2, none⟩ = some (.int .i64 (xs[k]?.getD (0, 0)).1) ∧ w.cell? ⟨b, off + k * 2 + 1, none⟩ = some (.int .i64 (xs[k]?.getD (0, 0)).2)

structure TS (W : World) (B s b : Nat) (v : Value) (L : List Bool) : Prop where
  ss : SS W s b L
  own : BS W B v L
  nb : v.ownBlock ≠ some b
  ns : v.ownBlock ≠ some s
  hb : B ≤ b
  hs : B ≤ s
theorem TS.past {W W' : World} {B s b : Nat} {v : Value} {L : List Bool} (h : TS W B s b v L) (hb : Below W.heap.size W W') : TS W' B s b v L := ⟨h.ss.past hb, own_past h.own hb, h.nb, h.ns, h.hb, h.hs⟩
theorem fresh_ne {W W' : World} {v : Value} {l : List Bool} {b : Nat} (h : BS W' W.heap.size v l) (hb : b < W.heap.size) : v.ownBlock ≠ some b := fun e => by
  have := (World.ownsRow.lt h b e).1
  omega
theorem ts_set {w W w3 w4 : World} {B s b : Nat} {v v2 : Value} {L L' : List Bool} (T : TS W B s b v L) (h3 : SS w3 s b L') (hg : W.grownBy w3 (some b)) (hv : BS w4 w3.heap.size v2 L') (hb4 : Below w3.heap.size w3 w4) (HW : Below B w W) (hB : B ≤ W.heap.size) :
    TS w4 B s b v2 L' ∧ Below B w w4 :=
  ⟨⟨h3.past hb4, own_mono hv (Nat.le_trans hB hg.size), fresh_ne hv h3.ltb, fresh_ne hv h3.lts, T.hb, T.hs⟩, (HW.grown hg hB (fun j e => by cases e; exact T.hb)).trans (hb4.mono (Nat.le_trans hB hg.size))⟩
theorem ts_size {w W w3 w4 : World} {B s b b' : Nat} {v v2 : Value} {L L' : List Bool} (T : TS W B s b v L) (h3 : SS w3 s b' L') (hb' : W.heap.size ≤ b') (hg : W.grownBy w3 (some s)) (hv : BS w4 w3.heap.size v2 L') (hb4 : Below w3.heap.size w3 w4) (HW : Below B w W) (hB : B ≤ W.heap.size) :
    TS w4 B s b' v2 L' ∧ Below B w w4 :=
  ⟨⟨h3.past hb4, own_mono hv (Nat.le_trans hB hg.size), fresh_ne hv h3.ltb, fresh_ne hv h3.lts, Nat.le_trans hB hb', T.hs⟩, (HW.grown hg hB (fun j e => by cases e; exact T.hs)).trans (hb4.mono (Nat.le_trans hB hg.size))⟩
theorem ts_made {W : World} {L0 : List Value} {c : Nat} (hL : L0 = List.replicate c (Value.bool false)) (hc : c ≤ 1000) : BS (W.alloc (.cells L0.toArray 4)) W.heap.size (.slice (some ⟨W.heap.size, 0, none⟩) c c) (List.replicate c false) := by
  have := World.ownsRow_lit (e := 4) (size := 1) W L0.toArray c (Nat.le_refl _) (by unfold maxLen; omega) (by simp [hL])
  unfold BS
  rw [List.length_replicate, List.map_replicate, ← hL]
  simpa using this
theorem TS.slot {W : World} {B s b : Nat} {v : Value} {L : List Bool} (h : TS W B s b v L) : ∃ A c, v = .slice A L.length c ∧ RB W W.heap.size A L := h.own.form
/-- The document's With behind a call that has written the stops. -/
theorem with_kept {W w3 : World} {B s b row : Nat} {A : Option Addr} {c : Nat} {L : List Bool} (T : TS W B s b (.slice A L.length c) L) (x : Int) (on : Bool) (hg : W.grownBy w3 (some row)) (hr : (Value.slice A L.length c).ownBlock ≠ some row) :
    Calls Try.prog 12 #[.slice A L.length c, .int .i64 x, .bool on] w3 (BoolsPost (putB L x on) w3) := by
  have hM3 : BS w3 B (.slice A L.length c) L := T.own.kept hg (.inr hr)
  obtain ⟨A3, c3, h3, hR3⟩ := hM3.form
  injection h3 with e1 e2 e3
  subst e1; subst e3
  exact with_any _ L L.length _ x on rfl T.ss.lo T.ss.hi w3 hR3
theorem size_kept {W w3 : World} {B s b row : Nat} {A : Option Addr} {c : Nat} {L : List Bool} (T : TS W B s b (.slice A L.length c) L) (x : Nat) (hx : x ≤ 1000) (hg : W.grownBy w3 (some row)) (hr : (Value.slice A L.length c).ownBlock ≠ some row) :
    Calls Try.prog 16 #[.slice A L.length c, .int .i64 x] w3 (BoolsPost (resL L x) w3) := by
  have hM3 : BS w3 B (.slice A L.length c) L := T.own.kept hg (.inr hr)
  obtain ⟨A3, c3, h3, hR3⟩ := hM3.form
  injection h3 with e1 e2 e3
  subst e1; subst e3
  exact refSize_any _ L L.length _ x rfl hx w3 hR3

set_option maxRecDepth 100000 in
set_option maxHeartbeats 16000000 in
theorem tabsPlays_law (cols : Int) (A : Option Addr) (xs : List (Int × Int)) (n cp : Nat) (hn : n = xs.length) (hc0 : 0 ≤ cols) (hc1 : cols ≤ 65535) (w : World) (hR : RO w w.heap.size A xs) :
    Calls Try.prog 3 #[.int .u16 cols, .slice A n cp] w fun e w' => e = .returned (.bool true) ∧ Below w.heap.size w w' := by
  by_cases h60 : (60 : Int) < n
  · clear hn hR
    go_enter Try.func3, Try.ntmps3
    go_wp2_with (go_at_call 8; (with_reducible refine (awake_any _).mono ?_); rintro e w0 ⟨rfl, hb0⟩)
    go_ret
    exact ⟨rfl, hb0⟩
  · have hn60 : (n : Int) ≤ 60 := by omega
    obtain ⟨d, hd⟩ : ∃ d : Nat, cols % 999 = d := ⟨(cols % 999).toNat, by omega⟩
    have hd9 : d ≤ 998 := by omega
    obtain ⟨l, hl⟩ : ∃ l, l = resL [] (2 + d) := ⟨_, rfl⟩
    have HNEW := Lib.hid (fun W => new_l d hd9 l hl W)
    have HFIRST : Hid (∀ W, Calls Try.prog 10 #[.int .i64 (2 + (d : Int))] W (BoolsPost l W)) := Lib.hid fun W => by
      have := first_any (2 + d) (by omega) W
      rw [← hl, show ((2 + d : Nat) : Int) = 2 + (d : Int) by omega] at this
      exact this
    have HR := Lib.hid hR
    have HN := Lib.hid hn
    have hdn : decide (60 < (n : Int)) = false := decide_eq_false (by omega)
    clear hl hR hn h60
    go_enter Try.func3, Try.ntmps3
    go_wp2_with (first
      | (go_at_call 8; (with_reducible refine (awake_any _).mono ?_); rintro e w0 ⟨rfl, hb0⟩; have HB0 := Lib.hid hb0; clear hb0)
      | (go_at_call 9; (with_reducible refine (HNEW.out _).mono ?_); rintro e w1 ⟨s, b, rfl, hS, hs, hb, hB⟩; have HS1 := Lib.hid hS; have HB1 := Lib.hid (bel0 HB0.out hB); have HBB := Lib.hid (Nat.le_trans HB0.out.size hb); have HSS := Lib.hid (Nat.le_trans HB0.out.size hs); clear hS hs hb hB)
      | (go_at_call 10; (with_reducible refine (HFIRST.out _).mono ?_); rintro e w2 ⟨v2, rfl, hv2, hb2⟩; have HT2 : Hid (TS w2 w.heap.size s b v2 l) := Lib.hid ⟨HS1.out.past hb2, own_mono hv2 HB1.out.size, fresh_ne hv2 HS1.out.ltb, fresh_ne hv2 HS1.out.lts, HBB.out, HSS.out⟩; have HB2 := Lib.hid (bel0 HB1.out hb2); clear hv2 hb2))
    clear HNEW HFIRST HS1 HB1
    go_loopw [8, 9] (fun v is wr => ∃ (k b' : Nat) (vo : Value) (L : List Bool), vo = v ∧ k ≤ n ∧ is = .int .i64 k ∧ Hid (TS wr w.heap.size s b' vo L) ∧ Hid (Below w.heap.size w wr)) (fun _ is _ => n - (intOf is).toNat)
    case atStart => exact ⟨0, b, _, l, rfl, Nat.zero_le _, rfl, HT2, HB2⟩
    case round =>
      clear HT2 HB2 HBB HSS
      obtain ⟨k, b', vo, L, rfl, hk, rfl, HT, HB⟩ := hrel
      by_cases hlt : k < n
      · have hkx : k < xs.length := by have := HN.out; omega
        obtain ⟨bu, off, rfl, hbl, hcx⟩ := HR.out (fun e => by rw [e] at hkx; simp at hkx)
        obtain ⟨y, hy⟩ : ∃ y, xs[k]?.getD (0, 0) = y := ⟨_, rfl⟩
        have hcy := hcx k hkx
        rw [hy] at hcy
        clear hy hcx hkx
        obtain ⟨kd, x⟩ := y
        have HBU := Lib.hid hbl
        have HCX : Hid (∀ W, Below w.heap.size w W → W.cell? ⟨bu, off + k * 2, none⟩ = some (.int .i64 kd) ∧ W.cell? ⟨bu, off + k * 2 + 1, none⟩ = some (.int .i64 x)) := Lib.hid fun W hW => ⟨(hW.cell (p := ⟨bu, off + k * 2, none⟩) hbl).trans hcy.1, (hW.cell (p := ⟨bu, off + k * 2 + 1, none⟩) hbl).trans hcy.2⟩
        clear hcy hbl
        obtain ⟨hck, hcx⟩ := HCX.out wr HB.out
        have hki : (k : Int) < n := by omega
        obtain ⟨Am, cm, hvo, hRM⟩ := HT.out.slot
        subst hvo
        have HRM := Lib.hid hRM
        have HSZ := Lib.hid HB.out.size
        clear hRM HR HN
        by_cases hk0 : kd = 0
        · subst hk0
          have HSET := Lib.hid (set_any s b' L x wr HT.out.ss)
          have HWITH : Hid (∀ w3, wr.grownBy w3 (some b') → Calls Try.prog 12 #[.slice Am L.length cm, .int .i64 x, .bool true] w3 (BoolsPost (putB L x true) w3)) := Lib.hid fun w3 hg => with_kept HT.out x true hg HT.out.nb
          have HAFT : Hid (∀ w3, wr.grownBy w3 (some b') → w3.cell? ⟨bu, off + k * 2, none⟩ = some (.int .i64 0) ∧ w3.cell? ⟨bu, off + k * 2 + 1, none⟩ = some (.int .i64 x)) := Lib.hid fun w3 hg => HCX.out w3 (HB.out.grown hg HSZ.out (fun j e => by cases e; exact HT.out.hb))
          have HN2 : Hid ((putB L x true).length = (putB L x true).length) := Lib.hid rfl
          have HLE : Hid ((putB L x true).length ≤ 1000) := Lib.hid (by rw [putB_len]; exact HT.out.ss.hi)
          generalize putB L x true = L2 at *
          clear HCX
          have HCO : Hid (∀ W, SS W s b' L2 → Calls Try.prog 17 #[.pointer (some ⟨s, 0, none⟩)] W fun e w' => e = .returned (.int .i64 (L2.length : Nat)) ∧ W = w') := Lib.hid fun W h => by
            have := cols_any s b' L2 W h
            rw [HN2.out] at this
            exact this
          have HLI : Hid (∀ W, SS W s b' L2 → Calls Try.prog 19 #[.pointer (some ⟨s, 0, none⟩)] W (IntsPost (idxL L2) W)) := Lib.hid fun W h => list_any s b' L2 W h
          have HRL : Hid (∀ W A c, RB W W.heap.size A L2 → Calls Try.prog 20 #[.slice A (L2.length) c] W (IntsPost (idxL L2) W)) := Lib.hid fun W A c h => refList_any A L2 _ c HN2.out.symm (by have := HN2.out; have := HLE.out; omega) W h
          have HIN : Hid (∀ W A A' c c', RI W W.heap.size A (idxL L2) → RI W W.heap.size A' (idxL L2) → Calls Try.prog 18 #[.slice A (idxL L2).length c, .slice A' (idxL L2).length c'] W fun e w' => e = .returned (.bool true) ∧ Below W.heap.size W w') := Lib.hid fun W A A' c c' h1 h2 => by
            have := ints_any A A' (idxL L2) (idxL L2) _ _ c c' rfl rfl (by have h3 : (idxL L2).length ≤ L2.length := idxK_le L2 L2.length; have := HLE.out; omega) W h1 h2
            rw [show intsB (idxL L2) (idxL L2) = true from decide_eq_true rfl] at this
            exact this
          go_wp2_with (first
            | (go_at_call 11; (with_reducible refine HSET.out.mono ?_); rintro e w3 ⟨rfl, h3, hg3⟩; obtain ⟨hck3, hcx3⟩ := HAFT.out w3 hg3; have HS3 := Lib.hid h3; have HG3 := Lib.hid hg3; clear h3 hg3)
            | (go_at_call 12; (with_reducible refine (HWITH.out w3 HG3.out).mono ?_); rintro e w4 ⟨v2, rfl, hv2, hb4⟩; have HF := Lib.hid (ts_set HT.out HS3.out HG3.out hv2 hb4 HB.out HSZ.out); obtain ⟨A2, c2, rfl, hRM2⟩ := HF.out.1.slot; have HRM4 := Lib.hid hRM2; have HT4 := Lib.hid HF.out.1; have HB4 := Lib.hid HF.out.2; clear hv2 hb4 hRM2)
            | (go_at_call 17; (with_reducible refine (HCO.out _ HT4.out.ss).mono ?_); rintro e w' ⟨rfl, rfl⟩)
            | (go_at_call 19; (with_reducible refine (HLI.out _ HT4.out.ss).mono ?_); rintro e w7 ⟨vl, rfl, hown, hb7⟩; obtain ⟨Al, cl, rfl, _⟩ := own_form hown; have HRI7 := Lib.hid (RI.of_own hown); have HB7 := Lib.hid hb7; clear hown hb7)
            | (go_at_call 20; (with_reducible refine (HRL.out _ _ _ (rb_past HRM4.out HB7.out)).mono ?_); rintro e w8 ⟨vr, rfl, hown, hb8⟩; obtain ⟨Ar, cr, rfl, _⟩ := own_form hown; have HRI8 := Lib.hid (RI.of_own hown); have HL8 := Lib.hid (HRI7.out.past hb8); have HB8 := Lib.hid (bel0 HB7.out hb8); clear hown hb8)
            | (go_at_call 18; (with_reducible refine (HIN.out _ _ _ _ _ HL8.out HRI8.out).mono ?_); rintro e w9 ⟨rfl, hb9⟩; have HB9 := Lib.hid (bel0 HB8.out hb9); clear hb9))
          go_roundw
          case rel => exact ⟨k + 1, b', _, L2, rfl, hlt, by go_num, Lib.hid (HT4.out.past HB9.out), Lib.hid (HB4.out.trans (HB9.out.mono HB4.out.size))⟩
          case measure => simp [intOf]; omega
        by_cases hk1 : kd = 1
        · subst hk1
          have HSET := Lib.hid (clear_any s b' L x wr HT.out.ss)
          have HWITH : Hid (∀ w3, wr.grownBy w3 (some b') → Calls Try.prog 12 #[.slice Am L.length cm, .int .i64 x, .bool false] w3 (BoolsPost (putB L x false) w3)) := Lib.hid fun w3 hg => with_kept HT.out x false hg HT.out.nb
          have HAFT : Hid (∀ w3, wr.grownBy w3 (some b') → w3.cell? ⟨bu, off + k * 2, none⟩ = some (.int .i64 1) ∧ w3.cell? ⟨bu, off + k * 2 + 1, none⟩ = some (.int .i64 x)) := Lib.hid fun w3 hg => HCX.out w3 (HB.out.grown hg HSZ.out (fun j e => by cases e; exact HT.out.hb))
          have HN2 : Hid ((putB L x false).length = (putB L x false).length) := Lib.hid rfl
          have HLE : Hid ((putB L x false).length ≤ 1000) := Lib.hid (by rw [putB_len]; exact HT.out.ss.hi)
          generalize putB L x false = L2 at *
          clear HCX
          have HCO : Hid (∀ W, SS W s b' L2 → Calls Try.prog 17 #[.pointer (some ⟨s, 0, none⟩)] W fun e w' => e = .returned (.int .i64 (L2.length : Nat)) ∧ W = w') := Lib.hid fun W h => by
            have := cols_any s b' L2 W h
            rw [HN2.out] at this
            exact this
          have HLI : Hid (∀ W, SS W s b' L2 → Calls Try.prog 19 #[.pointer (some ⟨s, 0, none⟩)] W (IntsPost (idxL L2) W)) := Lib.hid fun W h => list_any s b' L2 W h
          have HRL : Hid (∀ W A c, RB W W.heap.size A L2 → Calls Try.prog 20 #[.slice A (L2.length) c] W (IntsPost (idxL L2) W)) := Lib.hid fun W A c h => refList_any A L2 _ c HN2.out.symm (by have := HN2.out; have := HLE.out; omega) W h
          have HIN : Hid (∀ W A A' c c', RI W W.heap.size A (idxL L2) → RI W W.heap.size A' (idxL L2) → Calls Try.prog 18 #[.slice A (idxL L2).length c, .slice A' (idxL L2).length c'] W fun e w' => e = .returned (.bool true) ∧ Below W.heap.size W w') := Lib.hid fun W A A' c c' h1 h2 => by
            have := ints_any A A' (idxL L2) (idxL L2) _ _ c c' rfl rfl (by have h3 : (idxL L2).length ≤ L2.length := idxK_le L2 L2.length; have := HLE.out; omega) W h1 h2
            rw [show intsB (idxL L2) (idxL L2) = true from decide_eq_true rfl] at this
            exact this
          go_wp2_with (first
            | (go_at_call 13; (with_reducible refine HSET.out.mono ?_); rintro e w3 ⟨rfl, h3, hg3⟩; obtain ⟨hck3, hcx3⟩ := HAFT.out w3 hg3; have HS3 := Lib.hid h3; have HG3 := Lib.hid hg3; clear h3 hg3)
            | (go_at_call 12; (with_reducible refine (HWITH.out w3 HG3.out).mono ?_); rintro e w4 ⟨v2, rfl, hv2, hb4⟩; have HF := Lib.hid (ts_set HT.out HS3.out HG3.out hv2 hb4 HB.out HSZ.out); obtain ⟨A2, c2, rfl, hRM2⟩ := HF.out.1.slot; have HRM4 := Lib.hid hRM2; have HT4 := Lib.hid HF.out.1; have HB4 := Lib.hid HF.out.2; clear hv2 hb4 hRM2)
            | (go_at_call 17; (with_reducible refine (HCO.out _ HT4.out.ss).mono ?_); rintro e w' ⟨rfl, rfl⟩)
            | (go_at_call 19; (with_reducible refine (HLI.out _ HT4.out.ss).mono ?_); rintro e w7 ⟨vl, rfl, hown, hb7⟩; obtain ⟨Al, cl, rfl, _⟩ := own_form hown; have HRI7 := Lib.hid (RI.of_own hown); have HB7 := Lib.hid hb7; clear hown hb7)
            | (go_at_call 20; (with_reducible refine (HRL.out _ _ _ (rb_past HRM4.out HB7.out)).mono ?_); rintro e w8 ⟨vr, rfl, hown, hb8⟩; obtain ⟨Ar, cr, rfl, _⟩ := own_form hown; have HRI8 := Lib.hid (RI.of_own hown); have HL8 := Lib.hid (HRI7.out.past hb8); have HB8 := Lib.hid (bel0 HB7.out hb8); clear hown hb8)
            | (go_at_call 18; (with_reducible refine (HIN.out _ _ _ _ _ HL8.out HRI8.out).mono ?_); rintro e w9 ⟨rfl, hb9⟩; have HB9 := Lib.hid (bel0 HB8.out hb9); clear hb9))
          go_roundw
          case rel => exact ⟨k + 1, b', _, L2, rfl, hlt, by go_num, Lib.hid (HT4.out.past HB9.out), Lib.hid (HB4.out.trans (HB9.out.mono HB4.out.size))⟩
          case measure => simp [intOf]; omega
        by_cases hk2 : kd = 2
        · subst hk2
          have hmk0 := mk_stops L.length HT.out.ss.hi
          obtain ⟨L0, hL0⟩ : ∃ L0, L0 = List.replicate L.length (Value.bool false) := ⟨_, rfl⟩
          have hmk := fun W => hmk0 W
          rw [← hL0] at hmk
          have HL0 := Lib.hid hL0
          clear hmk0 hL0
          have HSET := Lib.hid (none_any s b' L wr HT.out.ss)
          have HMADE : Hid (∀ w3, SS w3 s b' (List.replicate L.length false) → wr.grownBy w3 (some b') → TS (w3.alloc (.cells L0.toArray 4)) w.heap.size s b' (.slice (some ⟨w3.heap.size, 0, none⟩) L.length L.length) (List.replicate L.length false) ∧ Below w.heap.size w (w3.alloc (.cells L0.toArray 4)) ∧ RB (w3.alloc (.cells L0.toArray 4)) (w3.alloc (.cells L0.toArray 4)).heap.size (some ⟨w3.heap.size, 0, none⟩) (List.replicate L.length false)) := Lib.hid fun w3 h3 hg => by
            have hm := ts_made (W := w3) HL0.out HT.out.ss.hi
            have ht := ts_set HT.out h3 hg hm ((Below.refl w3.heap.size w3).alloc (Nat.le_refl _) _) HB.out HSZ.out
            refine ⟨ht.1, ht.2, ?_⟩
            obtain ⟨A3, c3, e3, hR3⟩ := hm.form
            injection e3 with e1 e2 e4
            subst e1
            exact hR3
          have HN2 : Hid ((List.replicate L.length false).length = L.length) := Lib.hid (by simp)
          have HLE : Hid ((List.replicate L.length false).length ≤ 1000) := Lib.hid (by rw [HN2.out]; exact HT.out.ss.hi)
          generalize List.replicate L.length false = L2 at *
          clear HCX hcx
          have HCO : Hid (∀ W, SS W s b' L2 → Calls Try.prog 17 #[.pointer (some ⟨s, 0, none⟩)] W fun e w' => e = .returned (.int .i64 (L.length : Nat)) ∧ W = w') := Lib.hid fun W h => by
            have := cols_any s b' L2 W h
            rw [HN2.out] at this
            exact this
          have HLI : Hid (∀ W, SS W s b' L2 → Calls Try.prog 19 #[.pointer (some ⟨s, 0, none⟩)] W (IntsPost (idxL L2) W)) := Lib.hid fun W h => list_any s b' L2 W h
          have HRL : Hid (∀ W A c, RB W W.heap.size A L2 → Calls Try.prog 20 #[.slice A (L.length) c] W (IntsPost (idxL L2) W)) := Lib.hid fun W A c h => refList_any A L2 _ c HN2.out.symm (by have := HN2.out; have := HLE.out; omega) W h
          have HIN : Hid (∀ W A A' c c', RI W W.heap.size A (idxL L2) → RI W W.heap.size A' (idxL L2) → Calls Try.prog 18 #[.slice A (idxL L2).length c, .slice A' (idxL L2).length c'] W fun e w' => e = .returned (.bool true) ∧ Below W.heap.size W w') := Lib.hid fun W A A' c c' h1 h2 => by
            have := ints_any A A' (idxL L2) (idxL L2) _ _ c c' rfl rfl (by have h3 : (idxL L2).length ≤ L2.length := idxK_le L2 L2.length; have := HLE.out; omega) W h1 h2
            rw [show intsB (idxL L2) (idxL L2) = true from decide_eq_true rfl] at this
            exact this
          go_wp2_with (first
            | (go_at_call 14; (with_reducible refine HSET.out.mono ?_); rintro e w3 ⟨rfl, h3, hg3⟩; obtain ⟨ht4, hb4, hr4⟩ := HMADE.out w3 h3 hg3; have HT4 := Lib.hid ht4; have HB4 := Lib.hid hb4; have HRM4 := Lib.hid hr4; clear h3 hg3 ht4 hb4 hr4)
            | (go_at_call 17; (with_reducible refine (HCO.out _ HT4.out.ss).mono ?_); rintro e w' ⟨rfl, rfl⟩)
            | (go_at_call 19; (with_reducible refine (HLI.out _ HT4.out.ss).mono ?_); rintro e w7 ⟨vl, rfl, hown, hb7⟩; obtain ⟨Al, cl, rfl, _⟩ := own_form hown; have HRI7 := Lib.hid (RI.of_own hown); have HB7 := Lib.hid hb7; clear hown hb7)
            | (go_at_call 20; (with_reducible refine (HRL.out _ _ _ (rb_past HRM4.out HB7.out)).mono ?_); rintro e w8 ⟨vr, rfl, hown, hb8⟩; obtain ⟨Ar, cr, rfl, _⟩ := own_form hown; have HRI8 := Lib.hid (RI.of_own hown); have HL8 := Lib.hid (HRI7.out.past hb8); have HB8 := Lib.hid (bel0 HB7.out hb8); clear hown hb8)
            | (go_at_call 18; (with_reducible refine (HIN.out _ _ _ _ _ HL8.out HRI8.out).mono ?_); rintro e w9 ⟨rfl, hb9⟩; have HB9 := Lib.hid (bel0 HB8.out hb9); clear hb9))
          go_roundw
          case rel => exact ⟨k + 1, b', _, L2, rfl, hlt, by go_num, Lib.hid (HT4.out.past HB9.out), Lib.hid (HB4.out.trans (HB9.out.mono HB4.out.size))⟩
          case measure => simp [intOf]; omega
        by_cases hk3 : kd = 3
        · subst hk3
          by_cases hx : 2 ≤ x ∧ x ≤ 1000
          · obtain ⟨X, hX⟩ : ∃ X : Nat, (X : Int) = x := ⟨x.toNat, by omega⟩
            have hXe : X ≤ 1000 := by omega
            have HSIZE : Hid (Calls Try.prog 15 #[.pointer (some ⟨s, 0, none⟩), .int .i64 x] wr (SizePost s (resL L X) wr)) := Lib.hid (by
              have := size_any s _ L X wr HT.out.ss.zz (by omega) hXe
              rw [hX] at this
              exact this)
            have HRS : Hid (∀ w3, wr.grownBy w3 (some s) → Calls Try.prog 16 #[.slice Am L.length cm, .int .i64 x] w3 (BoolsPost (resL L X) w3)) := Lib.hid fun w3 hg => by
              have := size_kept HT.out X hXe hg HT.out.ns
              rw [hX] at this
              exact this
            have HAFT : Hid (∀ w3, wr.grownBy w3 (some s) → w3.cell? ⟨bu, off + k * 2, none⟩ = some (.int .i64 3) ∧ w3.cell? ⟨bu, off + k * 2 + 1, none⟩ = some (.int .i64 x)) := Lib.hid fun w3 hg => HCX.out w3 (HB.out.grown hg HSZ.out (fun j e => by cases e; exact HT.out.hs))
            have HLE : Hid ((resL L X).length ≤ 1000) := Lib.hid (by rw [resL_len]; exact hXe)
            have hx1 : decide (2 ≤ x) = true := decide_eq_true hx.1
            have hx2 : decide (x ≤ 1000) = true := decide_eq_true hx.2
            have hx3 : 2 ≤ x := hx.1
            have hx4 : x ≤ 1000 := hx.2
            clear hX hx
            generalize resL L X = L2 at *
            clear HCX
            have HPRE : True := trivial
            go_upto_region 28 with (first
              | (go_at_call 15; (with_reducible refine HSIZE.out.mono ?_); rintro e w3 ⟨rfl, b3, h3, hb3, hg3⟩; obtain ⟨hck3, hcx3⟩ := HAFT.out w3 hg3; have HS3 := Lib.hid h3; have HBB3 := Lib.hid hb3; have HG3 := Lib.hid hg3; clear h3 hg3 hb3)
              | (go_at_call 16; (with_reducible refine (HRS.out w3 HG3.out).mono ?_); rintro e w4 ⟨v2, rfl, hv2, hb4⟩; have HF := Lib.hid (ts_size HT.out HS3.out HBB3.out HG3.out hv2 hb4 HB.out HSZ.out); obtain ⟨A2, c2, rfl, hRM2⟩ := HF.out.1.slot; have HRM4 := Lib.hid hRM2; have HT4 := Lib.hid HF.out.1; have HB4 := Lib.hid HF.out.2; clear hv2 hb4 hRM2))
            have HN2 : Hid (L2.length = L2.length) := Lib.hid rfl
            have HCO : Hid (∀ W, SS W s b3 L2 → Calls Try.prog 17 #[.pointer (some ⟨s, 0, none⟩)] W fun e w' => e = .returned (.int .i64 (L2.length : Nat)) ∧ W = w') := Lib.hid fun W h => by
              have := cols_any s b3 L2 W h
              rw [HN2.out] at this
              exact this
            have HLI : Hid (∀ W, SS W s b3 L2 → Calls Try.prog 19 #[.pointer (some ⟨s, 0, none⟩)] W (IntsPost (idxL L2) W)) := Lib.hid fun W h => list_any s b3 L2 W h
            have HRL : Hid (∀ W A c, RB W W.heap.size A L2 → Calls Try.prog 20 #[.slice A (L2.length) c] W (IntsPost (idxL L2) W)) := Lib.hid fun W A c h => refList_any A L2 _ c HN2.out.symm (by have := HN2.out; have := HLE.out; omega) W h
            have HIN : Hid (∀ W A A' c c', RI W W.heap.size A (idxL L2) → RI W W.heap.size A' (idxL L2) → Calls Try.prog 18 #[.slice A (idxL L2).length c, .slice A' (idxL L2).length c'] W fun e w' => e = .returned (.bool true) ∧ Below W.heap.size W w') := Lib.hid fun W A A' c c' h1 h2 => by
              have := ints_any A A' (idxL L2) (idxL L2) _ _ c c' rfl rfl (by have h3 : (idxL L2).length ≤ L2.length := idxK_le L2 L2.length; have := HLE.out; omega) W h1 h2
              rw [show intsB (idxL L2) (idxL L2) = true from decide_eq_true rfl] at this
              exact this
            go_wp2_with (first
              | (go_at_call 17; (with_reducible refine (HCO.out _ HT4.out.ss).mono ?_); rintro e w' ⟨rfl, rfl⟩)
              | (go_at_call 19; (with_reducible refine (HLI.out _ HT4.out.ss).mono ?_); rintro e w7 ⟨vl, rfl, hown, hb7⟩; obtain ⟨Al, cl, rfl, _⟩ := own_form hown; have HRI7 := Lib.hid (RI.of_own hown); have HB7 := Lib.hid hb7; clear hown hb7)
              | (go_at_call 20; (with_reducible refine (HRL.out _ _ _ (rb_past HRM4.out HB7.out)).mono ?_); rintro e w8 ⟨vr, rfl, hown, hb8⟩; obtain ⟨Ar, cr, rfl, _⟩ := own_form hown; have HRI8 := Lib.hid (RI.of_own hown); have HL8 := Lib.hid (HRI7.out.past hb8); have HB8 := Lib.hid (bel0 HB7.out hb8); clear hown hb8)
              | (go_at_call 18; (with_reducible refine (HIN.out _ _ _ _ _ HL8.out HRI8.out).mono ?_); rintro e w9 ⟨rfl, hb9⟩; have HB9 := Lib.hid (bel0 HB8.out hb9); clear hb9))
            go_roundw
            case rel => exact ⟨k + 1, b3, _, L2, rfl, hlt, by go_num, Lib.hid (HT4.out.past HB9.out), Lib.hid (HB4.out.trans (HB9.out.mono HB4.out.size))⟩
            case measure => simp [intOf]; omega
          · have HNO : Hid (x < 2 ∨ 1000 < x) := Lib.hid (by omega)
            have HN2 : Hid (L.length = L.length) := Lib.hid rfl
            have HLE : Hid (L.length ≤ 1000) := Lib.hid HT.out.ss.hi
            have hxc : decide (2 ≤ x) = false ∨ decide (2 ≤ x) = true ∧ decide (x ≤ 1000) = false := by
              by_cases h2 : 2 ≤ x
              · exact .inr ⟨decide_eq_true h2, decide_eq_false (by omega)⟩
              · exact .inl (decide_eq_false h2)
            clear hx HCX
            have HCO : Hid (∀ W, SS W s b' L → Calls Try.prog 17 #[.pointer (some ⟨s, 0, none⟩)] W fun e w' => e = .returned (.int .i64 (L.length : Nat)) ∧ W = w') := Lib.hid fun W h => by
              have := cols_any s b' L W h
              rw [HN2.out] at this
              exact this
            have HLI : Hid (∀ W, SS W s b' L → Calls Try.prog 19 #[.pointer (some ⟨s, 0, none⟩)] W (IntsPost (idxL L) W)) := Lib.hid fun W h => list_any s b' L W h
            have HRL : Hid (∀ W A c, RB W W.heap.size A L → Calls Try.prog 20 #[.slice A (L.length) c] W (IntsPost (idxL L) W)) := Lib.hid fun W A c h => refList_any A L _ c HN2.out.symm (by have := HN2.out; have := HLE.out; omega) W h
            have HIN : Hid (∀ W A A' c c', RI W W.heap.size A (idxL L) → RI W W.heap.size A' (idxL L) → Calls Try.prog 18 #[.slice A (idxL L).length c, .slice A' (idxL L).length c'] W fun e w' => e = .returned (.bool true) ∧ Below W.heap.size W w') := Lib.hid fun W A A' c c' h1 h2 => by
              have := ints_any A A' (idxL L) (idxL L) _ _ c c' rfl rfl (by have h3 : (idxL L).length ≤ L.length := idxK_le L L.length; have := HLE.out; omega) W h1 h2
              rw [show intsB (idxL L) (idxL L) = true from decide_eq_true rfl] at this
              exact this
            rcases hxc with hx1 | ⟨hx1, hx2⟩
            all_goals
              go_wp2_with (first
                | (go_at_call 15; (with_reducible refine (size_no _ _ _ HNO.out).mono ?_); rintro e w' ⟨rfl, rfl⟩)
                | (go_at_call 17; (with_reducible refine (HCO.out _ HT.out.ss).mono ?_); rintro e w' ⟨rfl, rfl⟩)
                | (go_at_call 19; (with_reducible refine (HLI.out _ HT.out.ss).mono ?_); rintro e w7 ⟨vl, rfl, hown, hb7⟩; obtain ⟨Al, cl, rfl, _⟩ := own_form hown; have HRI7 := Lib.hid (RI.of_own hown); have HB7 := Lib.hid hb7; clear hown hb7)
                | (go_at_call 20; (with_reducible refine (HRL.out _ _ _ (rb_past HRM.out HB7.out)).mono ?_); rintro e w8 ⟨vr, rfl, hown, hb8⟩; obtain ⟨Ar, cr, rfl, _⟩ := own_form hown; have HRI8 := Lib.hid (RI.of_own hown); have HL8 := Lib.hid (HRI7.out.past hb8); have HB8 := Lib.hid (bel0 HB7.out hb8); clear hown hb8)
                | (go_at_call 18; (with_reducible refine (HIN.out _ _ _ _ _ HL8.out HRI8.out).mono ?_); rintro e w9 ⟨rfl, hb9⟩; have HB9 := Lib.hid (bel0 HB8.out hb9); clear hb9))
              go_roundw
              case rel => exact ⟨k + 1, b', _, L, rfl, hlt, by go_num, Lib.hid (HT.out.past HB9.out), Lib.hid (HB.out.trans (HB9.out.mono HB.out.size))⟩
              case measure => simp [intOf]; omega
        · have HN2 : Hid (L.length = L.length) := Lib.hid rfl
          have HLE : Hid (L.length ≤ 1000) := Lib.hid HT.out.ss.hi
          have e0 : (kd == 0) = false := by simpa using hk0
          have e1 : (kd == 1) = false := by simpa using hk1
          have e2 : (kd == 2) = false := by simpa using hk2
          have e3 : (kd == 3) = false := by simpa using hk3
          clear hk0 hk1 hk2 hk3 HCX hcx
          have HCO : Hid (∀ W, SS W s b' L → Calls Try.prog 17 #[.pointer (some ⟨s, 0, none⟩)] W fun e w' => e = .returned (.int .i64 (L.length : Nat)) ∧ W = w') := Lib.hid fun W h => by
            have := cols_any s b' L W h
            rw [HN2.out] at this
            exact this
          have HLI : Hid (∀ W, SS W s b' L → Calls Try.prog 19 #[.pointer (some ⟨s, 0, none⟩)] W (IntsPost (idxL L) W)) := Lib.hid fun W h => list_any s b' L W h
          have HRL : Hid (∀ W A c, RB W W.heap.size A L → Calls Try.prog 20 #[.slice A (L.length) c] W (IntsPost (idxL L) W)) := Lib.hid fun W A c h => refList_any A L _ c HN2.out.symm (by have := HN2.out; have := HLE.out; omega) W h
          have HIN : Hid (∀ W A A' c c', RI W W.heap.size A (idxL L) → RI W W.heap.size A' (idxL L) → Calls Try.prog 18 #[.slice A (idxL L).length c, .slice A' (idxL L).length c'] W fun e w' => e = .returned (.bool true) ∧ Below W.heap.size W w') := Lib.hid fun W A A' c c' h1 h2 => by
            have := ints_any A A' (idxL L) (idxL L) _ _ c c' rfl rfl (by have h3 : (idxL L).length ≤ L.length := idxK_le L L.length; have := HLE.out; omega) W h1 h2
            rw [show intsB (idxL L) (idxL L) = true from decide_eq_true rfl] at this
            exact this
          go_wp2_with (first
            | (go_at_call 17; (with_reducible refine (HCO.out _ HT.out.ss).mono ?_); rintro e w' ⟨rfl, rfl⟩)
            | (go_at_call 19; (with_reducible refine (HLI.out _ HT.out.ss).mono ?_); rintro e w7 ⟨vl, rfl, hown, hb7⟩; obtain ⟨Al, cl, rfl, _⟩ := own_form hown; have HRI7 := Lib.hid (RI.of_own hown); have HB7 := Lib.hid hb7; clear hown hb7)
            | (go_at_call 20; (with_reducible refine (HRL.out _ _ _ (rb_past HRM.out HB7.out)).mono ?_); rintro e w8 ⟨vr, rfl, hown, hb8⟩; obtain ⟨Ar, cr, rfl, _⟩ := own_form hown; have HRI8 := Lib.hid (RI.of_own hown); have HL8 := Lib.hid (HRI7.out.past hb8); have HB8 := Lib.hid (bel0 HB7.out hb8); clear hown hb8)
            | (go_at_call 18; (with_reducible refine (HIN.out _ _ _ _ _ HL8.out HRI8.out).mono ?_); rintro e w9 ⟨rfl, hb9⟩; have HB9 := Lib.hid (bel0 HB8.out hb9); clear hb9))
          go_roundw
          case rel => exact ⟨k + 1, b', _, L, rfl, hlt, by go_num, Lib.hid (HT.out.past HB9.out), Lib.hid (HB.out.trans (HB9.out.mono HB.out.size))⟩
          case measure => simp [intOf]; omega
      · obtain rfl : k = n := by omega
        clear HT HR HN
        go_wp2
        go_ret
        exact ⟨rfl, HB.out⟩

end Go.Proofs.Ytabipecpkbjdkaa
