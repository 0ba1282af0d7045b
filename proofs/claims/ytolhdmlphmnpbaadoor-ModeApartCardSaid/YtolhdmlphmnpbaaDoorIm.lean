/- The law ModePlays. -/
import Derived.Test.YtolhdmlphmnpbaaDoorIl
import Derived.Deep.RegionHeld3
import Derived.Deep.DeepCutAuto
namespace Go.Proofs.YtolhdmlphmnpbaaDoor
open Go.RowKit

/-- A whole array, read in the quiet head of a drawn region. -/
theorem wpStill_load_row {P : Program} {ops : Array Oper} {w : World} {Q : Act → Prop} {a : Act} {o : Oper} {rest : List Oper} (hgd : o.guard = none) (ty : TypeId) (x : Operand) (ho : o.op = .load ty x)
    (g : Nat) (hx : a.eval x = .pointer (some ⟨g, 0, none⟩)) (t : TypeId) (cs : Array Value) (fr : Nat × Nat) (d : TypeDesc) (hg : w.heap[g]? = some (.cells cs t fr))
    (hu : P.underlying ty = some d) (hd : (match d with | .struct _ | .array _ _ => true | _ => false) = true) (hi : (P.info? ty).map (·.size) = some cs.size)
    (h : wpStill P ops w Q rest (a.put o.dst (.agg cs))) : wpStill P ops w Q (o :: rest) a := by
  refine wpStill_step fun K hK => ?_
  rw [if_pos (by simp [Region.wanted, hgd])]
  unfold Oper.still execOp
  simp only [ho, hx, Instr.loadAt, Instr.sureAddr, Sem.run_bind, Sem.run_pure, Result.andThen_ok, run_loadVar_row w g t ty cs fr d hg hu hd hi]
  exact (Oper.stillUpon_value _ _ _ _ _).mpr (hK _ h)

/-- A whole array, read where a guard has struck. -/
theorem wpList_load_rowG {P : Program} {ops : Array Oper} {rest : List Oper} {o : Oper} {a : Act} {w : World} {Q : Exit → Act → World → Prop} (hw : Region.wanted o (yielded ops a.tmps) = true) (ty : TypeId) (x : Operand) (ho : o.op = .load ty x)
    (g : Nat) (hx : a.eval x = .pointer (some ⟨g, 0, none⟩)) (t : TypeId) (cs : Array Value) (fr : Nat × Nat) (d : TypeDesc) (hg : w.heap[g]? = some (.cells cs t fr))
    (hu : P.underlying ty = some d) (hd : (match d with | .struct _ | .array _ _ => true | _ => false) = true) (hi : (P.info? ty).map (·.size) = some cs.size)
    (h : wpList P ops Q rest (a.put o.dst (.agg cs)) w) : wpList P ops Q (o :: rest) a w :=
  wpList_step fun K hK => by
    rw [if_pos hw]
    exact wp_load_row ty x ho g hx t cs fr d hg hu hd hi (hK _ _ h)
theorem beq_b (b : Bool) : (b == b) = true := by simp
/-- What is set and reset, in memory. -/
def RO (W : World) (B : Nat) (A : Option Addr) (l : List (Bool × Int × Bool)) : Prop :=
  l ≠ [] → ∃ b off, A = some ⟨b, off, none⟩ ∧ b < B ∧ ∀ k, k < l.length → W.cell? ⟨b, off + k * 3, none⟩ = some (.bool (l[k]?.getD (false, 0, false)).1) ∧ W.cell? ⟨b, off + k * 3 + 1, none⟩ = some (.int .i64 (l[k]?.getD (false, 0, false)).2.1) ∧ W.cell? ⟨b, off + k * 3 + 2, none⟩ = some (.bool (l[k]?.getD (false, 0, false)).2.2)
theorem RO.at {W W' : World} {A : Option Addr} {l : List (Bool × Int × Bool)} (h : RO W W.heap.size A l) (hb : Below W.heap.size W W') (k : Nat) (hk : k < l.length) :
    ∃ b off p n on, A = some ⟨b, off, none⟩ ∧ b < W.heap.size ∧ l[k]? = some (p, n, on) ∧ W'.cell? ⟨b, off + k * 3, none⟩ = some (.bool p) ∧ W'.cell? ⟨b, off + k * 3 + 1, none⟩ = some (.int .i64 n) ∧ W'.cell? ⟨b, off + k * 3 + 2, none⟩ = some (.bool on) := by
  obtain ⟨b, off, e, hl, hc⟩ := h (fun e => by rw [e] at hk; simp at hk)
  obtain ⟨h1, h2, h3⟩ := hc k hk
  rw [List.getElem?_eq_getElem hk] at h1 h2 h3 ⊢
  exact ⟨b, off, _, _, _, e, hl, rfl, (hb.cell (p := ⟨b, off + k * 3, none⟩) hl).trans h1, (hb.cell (p := ⟨b, off + k * 3 + 1, none⟩) hl).trans h2, (hb.cell (p := ⟨b, off + k * 3 + 2, none⟩) hl).trans h3⟩
/-- The numbers are 64-bit ones. -/
def okO (l : List (Bool × Int × Bool)) : Prop := ∀ (k : Nat) (p : Bool) (n : Int) (on : Bool), l[k]? = some (p, n, on) → -9223372036854775808 ≤ n ∧ n ≤ 9223372036854775807
theorem three_step {wr W W' : World} {b o : Nat} {v1 v2 v3 : Value} (h : (W.cell? ⟨b, o, none⟩ = some v1 ∧ W.cell? ⟨b, o + 1, none⟩ = some v2 ∧ W.cell? ⟨b, o + 2, none⟩ = some v3) ∧ b < W.heap.size ∧ Below wr.heap.size wr W) (hb : Below W.heap.size W W') :
    (W'.cell? ⟨b, o, none⟩ = some v1 ∧ W'.cell? ⟨b, o + 1, none⟩ = some v2 ∧ W'.cell? ⟨b, o + 2, none⟩ = some v3) ∧ b < W'.heap.size ∧ Below wr.heap.size wr W' := by
  obtain ⟨⟨e1, e2, e3⟩, l1, hB⟩ := h
  have hs := hb.size
  exact ⟨⟨(hb.cell (p := ⟨b, o, none⟩) l1).trans e1, (hb.cell (p := ⟨b, o + 1, none⟩) l1).trans e2, (hb.cell (p := ⟨b, o + 2, none⟩) l1).trans e3⟩, by omega, bel0 hB hb⟩
theorem three_below {wr W : World} {b o : Nat} {v1 v2 v3 : Value} (h : (W.cell? ⟨b, o, none⟩ = some v1 ∧ W.cell? ⟨b, o + 1, none⟩ = some v2 ∧ W.cell? ⟨b, o + 2, none⟩ = some v3) ∧ b < W.heap.size ∧ Below wr.heap.size wr W) : Below wr.heap.size wr W := h.2.2
theorem row_below {w wr : World} {g : Nat} {cs : Array Value} (h : Below w.heap.size w wr) (hg : w.heap.size ≤ g) : Below w.heap.size w (wr.setRow g cs) := below_setRow h hg cs

/-- A row of texts is no set's box. -/
theorem RT.setRow {w : World} {B g : Nat} {A : Option Addr} {L : List (List UInt8)} {f : Nat → Bool} {cs : Array Value} (h : RT w B A L) (hy : w.heap[g]? = some (.cells (sv f) 26 (0, 0))) : RT (w.setRow g cs) B A L := fun hn => by
  obtain ⟨b, off, e, hlt, hc⟩ := h hn
  refine ⟨b, off, e, hlt, fun k hk => ?_⟩
  have hne : b ≠ g := fun e => by
    subst e
    have h1 := hc k hk
    rw [cell_of_row _ _ _ _ _ _ hy] at h1
    rcases Nat.lt_or_ge (off + k) 18 with h2 | h2
    · rw [sv_at f _ h2] at h1
      cases h1
    · rw [Array.getElem?_eq_none (by rw [sv_size]; exact h2)] at h1
      cases h1
  exact (cell_setRow_other w g cs ⟨b, off + k, none⟩ hne).trans (hc k hk)
theorem cell_setRow_low {w wr : World} {g b o : Nat} {v : Value} {cs : Array Value} (h : wr.cell? ⟨b, o, none⟩ = some v) (hb : b < w.heap.size) (hg : w.heap.size ≤ g) : (wr.setRow g cs).cell? ⟨b, o, none⟩ = some v :=
  (cell_setRow_other wr g cs ⟨b, o, none⟩ (by show b ≠ g; omega)).trans h
set_option maxRecDepth 100000 in
set_option maxHeartbeats 8000000 in
theorem modePlays_law (A : Option Addr) (l : List (Bool × Int × Bool)) (n cp : Nat) (hn : n = l.length) (hl : okO l) (p : Bool) (z : Int) (h0 : -9223372036854775808 ≤ z) (h1 : z ≤ 9223372036854775807) (w : World) (hR : RO w w.heap.size A l) (hT : NT w) (hI : TI w) :
    Calls Tryd.prog 3 #[.slice A n cp, .bool p, .int .i64 z] w fun e w' => e = .returned (.bool true) ∧ Below w.heap.size w w' := by
  by_cases h100 : (100 : Int) < n
  · clear hR hn hl
    go_enter Tryd.func3, Tryd.ntmps3
    go_wp2_with (go_at_call 7; (with_reducible refine (awake_any _ hT hI).mono ?_); rintro e w0 ⟨rfl, hb0⟩; have HB0 := Lib.hid hb0; clear hb0)
    go_ret
    exact ⟨rfl, HB0.out⟩
  · have hn100 : (n : Int) ≤ 100 := by omega
    have hdn : decide (100 < (n : Int)) = false := decide_eq_false h100
    have HR := Lib.hid hR
    have HN := Lib.hid hn
    have HL := Lib.hid hl
    have HT := Lib.hid hT
    have HI := Lib.hid hI
    have HZ := Lib.hid (And.intro h0 h1)
    clear hR hn hl hT hI h100 h0 h1
    go_enter Tryd.func3, Tryd.ntmps3
    go_wp2_with (first
      | (go_at_call 7; (with_reducible refine (awake_any _ HT.out HI.out).mono ?_); rintro e w0 ⟨rfl, hb0⟩; have HB0 := Lib.hid hb0; clear hb0)
      | (go_at_call 8; (with_reducible refine (new_any _ (HT.out.below HB0.out)).mono ?_); rintro e w1 ⟨rfl, hb⟩; have HB1 := Lib.hid (bel0 HB0.out hb); clear hb)
      | (go_at_call 9; (with_reducible refine (first_any _).mono ?_); rintro e w2 ⟨rfl, hb, hr⟩; have HB2 := Lib.hid (bel0 HB1.out hb); have HB3 := Lib.hid (belA (bel0 HB1.out hb) (.cells zeroS 26)); have HR2 := Lib.hid hr; have Y2 := Lib.hid (heap_alloc_new w2 (.cells zeroS 26)); clear hb hr)
      | (refine wpList_store_row rfl 26 _ _ rfl w2.heap.size _ rfl rfl 26 _ Y2.out (infoSet _) (by rw [zeroS_eq, sv_size, sv_size]) (sv_one _) ?_))
    have HG := Lib.hid HB2.out.size
    have HYS := Lib.hid (setRow_heap _ _ _ (sv firstF) _ _ Y2.out)
    have HBS := Lib.hid (row_below (cs := sv firstF) HB3.out HG.out)
    have HRS : Hid (RT ((w2.alloc (.cells zeroS 26)).setRow w2.heap.size (sv firstF)) ((w2.alloc (.cells zeroS 26)).setRow w2.heap.size (sv firstF)).heap.size (some ⟨w1.heap.size, 0, none⟩) (listL firstF)) := by
      have hb := row_below (cs := sv firstF) (belA (Below.refl w2.heap.size w2) (.cells zeroS 26)) (Nat.le_refl _)
      exact Lib.hid ((HR2.out.below hb).more hb.size)
    have HNS : Hid (2 = (listL firstF).length) := Lib.hid (by rw [← first_list]; rfl)
    clear HR2 Y2 HB3 HB1 HB0
    generalize w2.heap.size = g at *
    go_loopw [8, 9] (fun m i wr => ∃ (k : Nat) (f : Nat → Bool) (A1 : Option Addr) (n1 c1 : Nat), m = .slice A1 n1 c1 ∧ i = .int .i64 k ∧ k ≤ n ∧ Hid (n1 = (listL f).length) ∧ Hid (RT wr wr.heap.size A1 (listL f)) ∧ Hid (wr.heap[g]? = some (.cells (sv f) 26 (0, 0))) ∧ Hid (Below w.heap.size w wr)) (fun _ i _ => n - (intOf i).toNat)
    case atStart => exact ⟨0, firstF, _, _, _, rfl, rfl, Nat.zero_le _, HNS, HRS, HYS, HBS⟩
    case round =>
      obtain ⟨k, f, A1, n1, c1, rfl, rfl, hk, HN1, HR1, HY, HB⟩ := hrel
      clear HRS HYS HBS HNS
      by_cases hlt : k < n
      · obtain ⟨b, off, q, m, on, rfl, hbl, hlk, k0, k1, k2⟩ := HR.out.at HB.out k (by have := HN.out; omega)
        have hki : (k : Int) < n := by omega
        have HM := Lib.hid (HL.out k q m on hlk)
        have HBL := Lib.hid hbl
        have hbw : b < wr.heap.size := Nat.lt_of_lt_of_le hbl HB.out.size
        have HBd := Lib.hid HB.out.drew
        have HC := Lib.hid (with_any f q m on wr.drew (HT.out.below HBd.out))
        clear hlk hbl
        go_wp2
        refine wp_region_still_tail 16 (by kernel_rfl) (by kernel_rfl) ?_
        simp only [List.take_succ_cons, List.take_zero, List.drop_succ_cons, List.drop_zero]
        refine wpStill_load_row rfl 26 _ rfl g rfl 26 _ (0, 0) _ HY.out Tryd.underlying26 rfl (infoSet _) ?_
        repeat still_step
        try refine wpStill_nil ?_
        change wpList _ _ _ _ _ wr.drew
        have k0d : wr.drew.cell? ⟨b, off + k * 3, none⟩ = some (.bool q) := k0
        have k1d : wr.drew.cell? ⟨b, off + k * 3 + 1, none⟩ = some (.int .i64 m) := k1
        have k2d : wr.drew.cell? ⟨b, off + k * 3 + 2, none⟩ = some (.bool on) := k2
        have HYd : Hid (wr.drew.heap[g]? = some (.cells (sv f) 26 (0, 0))) := Lib.hid HY.out
        have HRd : Hid (RT wr.drew wr.drew.heap.size A1 (listL f)) := Lib.hid HR1.out
        have hbd : b < wr.drew.heap.size := hbw
        clear k0 k1 k2 HY HR1 hbw HB
        generalize wr.drew = wd at *
        go_wp2_with (first
          | (go_at_call 10; (with_reducible refine (HC.out).mono ?_); rintro e w3 ⟨rfl, hb⟩; have HY3 := Lib.hid ((hb.block _ (lt_of_block HYd.out)).trans HYd.out); have HR3 := Lib.hid ((HRd.out.below hb).more hb.size); have HB3 := Lib.hid (bel0 HBd.out hb); have k03 := (hb.cell (p := ⟨b, off + k * 3, none⟩) hbd).trans k0d; have k13 := (hb.cell (p := ⟨b, off + k * 3 + 1, none⟩) hbd).trans k1d; have k23 := (hb.cell (p := ⟨b, off + k * 3 + 2, none⟩) hbd).trans k2d; clear hb)
          | (refine wpList_store_row rfl 26 _ _ rfl g _ rfl rfl 26 _ HY3.out (infoSet _) (by rw [sv_size, sv_size]) (sv_one _) ?_))
        have HYa := Lib.hid (setRow_heap _ _ _ (sv (updS f (placeZ q m) on)) _ _ HY3.out)
        have HRa : Hid (RT (w3.setRow g (sv (updS f (placeZ q m) on))) (w3.setRow g (sv (updS f (placeZ q m) on))).heap.size A1 (listL f)) := Lib.hid (by
          rw [size_setRow]
          exact HR3.out.setRow HY3.out)
        have HBa := Lib.hid (row_below (cs := sv (updS f (placeZ q m) on)) HB3.out HG.out)
        have k0a := cell_setRow_low (cs := sv (updS f (placeZ q m) on)) k03 HBL.out HG.out
        have k1a := cell_setRow_low (cs := sv (updS f (placeZ q m) on)) k13 HBL.out HG.out
        have k2a := cell_setRow_low (cs := sv (updS f (placeZ q m) on)) k23 HBL.out HG.out
        clear HY3 HR3 HB3 k03 k13 k23 k0d k1d k2d HYd HRd hbd HBd HC
        generalize w3.setRow g (sv (updS f (placeZ q m) on)) = wa at *
        have hbA : b < wa.heap.size := Nat.lt_of_lt_of_le HBL.out HBa.out.size
        have hS : (wa.cell? ⟨b, off + k * 3, none⟩ = some (.bool q) ∧ wa.cell? ⟨b, off + k * 3 + 1, none⟩ = some (.int .i64 m) ∧ wa.cell? ⟨b, off + k * 3 + 2, none⟩ = some (.bool on)) ∧ b < wa.heap.size ∧ Below wa.heap.size wa wa := ⟨⟨k0a, k1a, k2a⟩, hbA, Below.refl _ _⟩
        have hSd := three_step hS (Below.refl wa.heap.size wa).drew
        have HC1 := Lib.hid (fun W => name_any q m HM.out.1 HM.out.2 W)
        have HC2 : Hid (∀ W, Below wa.heap.size wa W → Calls Tryd.prog 11 #[.slice A1 n1 c1, .string (bsB (textM q m)), .bool on] W (StrsPost (listL (updS f (placeZ q m) on)) W)) := Lib.hid fun W hb => refWith_any A1 f n1 c1 HN1.out q m on W ((HRa.out.below hb).more hb.size)
        clear hS k0a k1a k2a HRa HN1 HM HBL
        generalize updS f (placeZ q m) on = f' at *
        generalize bsB (textM q m) = X at *
        go_wp2
        go_region_held3 (fun W => (W.cell? ⟨b, off + k * 3, none⟩ = some (.bool q) ∧ W.cell? ⟨b, off + k * 3 + 1, none⟩ = some (.int .i64 m) ∧ W.cell? ⟨b, off + k * 3 + 2, none⟩ = some (.bool on)) ∧ b < W.heap.size ∧ Below wa.heap.size wa W)
          (first | exact hSd | exact three_step hSd hbx | exact three_step (by assumption) hbx | assumption)
          (first
            | (go_at_call 12; (with_reducible refine (HC1.out _).mono ?_); rintro e8 w8 ⟨rfl, hbx⟩)
            | (go_at_call 11; (with_reducible refine (HC2.out _ ?_).mono ?_); (first | exact hSd.2.2 | exact three_below (by assumption)); rintro e9 w9 ⟨vm, rfl, hom, hbx⟩; obtain ⟨A2, c2, hf, _⟩ := own_form hom; subst hf; have HRm := Lib.hid (RT.of_own hom); clear hom))
        all_goals
          (try simp only [Exit.inBlock, Exit.then])
          go_wp2
          go_roundw
          case rel =>
            have hbz := three_below (by assumption)
            exact ⟨k + 1, f', A2, _, c2, rfl, by go_num, hlt, Lib.hid rfl, HRm, Lib.hid ((hbz.block _ (lt_of_block HYa.out)).trans HYa.out), Lib.hid (bel0 HBa.out hbz)⟩
          case measure => simp [intOf]; omega
      · obtain rfl : k = n := by omega
        have HC := Lib.hid (fun W => name_any p z HZ.out.1 HZ.out.2 W)
        have HSAME : Hid (∀ A2 c2 W, RT W W.heap.size A2 (listL f) → Below wr.heap.size wr W → Calls Tryd.prog 13 #[.slice A2 (listL f).length c2, .slice A1 n1 c1] W fun e w' => e = .returned (.bool true) ∧ Below W.heap.size W w') := Lib.hid fun A2 c2 W hr hb => by
          have h := strs_any A2 A1 (listL f) (listL f) (listL f).length n1 c2 c1 rfl HN1.out (by have := listL_le f; omega) W hr ((HR1.out.below hb).more hb.size)
          rwa [strsB_self] at h
        have HHAS : Hid (∀ W, Below wr.heap.size wr W → Calls Tryd.prog 16 #[.slice A1 n1 c1, .string (bsB (textM p z))] W fun e w' => e = .returned (.bool (isS f (placeZ p z))) ∧ Below W.heap.size W w') := Lib.hid fun W hb => by
          have h := has_any A1 (listL f) n1 c1 HN1.out (by have := HN1.out; have := listL_le f; omega) (textM p z) W ((HR1.out.below hb).more hb.size)
          rwa [listL_has] at h
        have HIS : Hid (∀ W, Below wr.heap.size wr W → Calls Tryd.prog 15 #[.agg (sv f), .bool p, .int .i64 z] W fun e w' => e = .returned (.bool (isS f (placeZ p z))) ∧ Below W.heap.size W w') := Lib.hid fun W hb => is_any f p z W (HT.out.below (bel0 HB.out hb))
        have HKN : Hid (∀ W, Below wr.heap.size wr W → Calls Tryd.prog 17 #[.bool p, .int .i64 z] W fun e w' => e = .returned (.bool (decide (0 ≤ placeZ p z))) ∧ Below W.heap.size W w') := Lib.hid fun W hb => known_any p z W (HT.out.below (bel0 HB.out hb))
        have HLI : Hid (∀ W, Below wr.heap.size wr W → Calls Tryd.prog 14 #[.agg (sv f)] W (StrsPost (listL f) W)) := Lib.hid fun W hb => list_any f W (HT.out.below (bel0 HB.out hb)) (HI.out.below (bel0 HB.out hb))
        have HH2 : Hid (∀ A W, RT W W.heap.size A allTx → Calls Tryd.prog 16 #[.slice A 18 18, .string (bsB (textM p z))] W fun e w' => e = .returned (.bool (decide (0 ≤ placeZ p z))) ∧ Below W.heap.size W w') := Lib.hid fun A W hr => by
          have h := has_any A allTx 18 18 allTx_len.symm (by omega) (textM p z) W hr
          rwa [all_has] at h
        have hb1 := beq_b (isS f (placeZ p z))
        have hb2 := beq_b (decide (0 ≤ placeZ p z))
        clear HR1 HN1
        generalize isS f (placeZ p z) = b1 at *
        generalize decide (0 ≤ placeZ p z) = b2 at *
        generalize bsB (textM p z) = X at *
        go_wp2_with (first
          | (go_at_call 12; (with_reducible refine (HC.out _).mono ?_); rintro e x1 ⟨rfl, hb⟩; have HX1 := Lib.hid hb; have HY1 := Lib.hid ((hb.block _ (lt_of_block HY.out)).trans HY.out); clear hb)
          | (refine wpList_load_row rfl 26 _ rfl g rfl 26 _ (0, 0) _ HY1.out Tryd.underlying26 rfl (infoSet _) ?_)
          | (go_at_call 14; (with_reducible refine (HLI.out _ HX1.out).mono ?_); rintro e x2 ⟨vl, rfl, ho, hb⟩; have HX2 := Lib.hid (bel0 HX1.out hb); have HY2 := Lib.hid ((hb.block _ (lt_of_block HY1.out)).trans HY1.out); obtain ⟨A2, c2, hf, _⟩ := own_form ho; subst hf; have HR2 := Lib.hid (RT.of_own ho); clear hb ho)
          | (go_at_call 13; (with_reducible refine (HSAME.out _ _ _ HR2.out HX2.out).mono ?_); rintro e x3 ⟨rfl, hb⟩; have HX3 := Lib.hid (bel0 HX2.out hb); have HY3 := Lib.hid ((hb.block _ (lt_of_block HY2.out)).trans HY2.out); clear hb)
          | (refine wpList_load_rowG rfl 26 _ rfl g rfl 26 _ (0, 0) _ HY3.out Tryd.underlying26 rfl (infoSet _) ?_)
          | (go_at_call 15; (with_reducible refine (HIS.out _ HX3.out).mono ?_); rintro e x4 ⟨rfl, hb⟩; have HX4 := Lib.hid (bel0 HX3.out hb); clear hb)
          | (go_at_call 16; (with_reducible refine (HHAS.out _ HX4.out).mono ?_); rintro e x5 ⟨rfl, hb⟩; have HX5 := Lib.hid (bel0 HX4.out hb); clear hb)
          | (go_at_call 17; (with_reducible refine (HKN.out _ HX5.out).mono ?_); rintro e x6 ⟨rfl, hb⟩; have HX6 := Lib.hid (bel0 HX5.out hb); clear hb)
          | (go_at_call 18; (with_reducible refine (all_any _).mono ?_); rintro e x7 ⟨rfl, hb, hr⟩; have HX7 := Lib.hid (bel0 HX6.out hb); have HR7 := Lib.hid hr; clear hb hr)
          | (go_at_call 16; (with_reducible refine (HH2.out _ _ HR7.out).mono ?_); rintro e x8 ⟨rfl, hb⟩; have HX8 := Lib.hid (bel0 HX7.out hb); clear hb))
        go_ret
        exact ⟨rfl, bel0 HB.out HX8.out⟩
end Go.Proofs.YtolhdmlphmnpbaaDoor
