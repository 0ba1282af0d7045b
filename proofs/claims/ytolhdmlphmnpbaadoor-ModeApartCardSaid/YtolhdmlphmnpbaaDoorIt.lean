/- The law ModeApart. -/
import Derived.Test.YtolhdmlphmnpbaaDoorIn
import Derived.Deep.RegionHeld3
import Derived.Deep.DeepCutAuto
namespace Go.Proofs.YtolhdmlphmnpbaaDoor
open Go.RowKit

/-- A whole array, read in a region whose cells are held. -/
theorem yields_load_row {P : Program} {ops : Array Oper} {S : World → Prop} {op : Oper} {a : Act} (hw : Region.wanted op (yielded ops a.tmps) = true) (ty : TypeId) (x : Operand) (ho : op.op = .load ty x)
    (g : Nat) (hx : a.eval x = .pointer (some ⟨g, 0, none⟩)) (t : TypeId) (cs : Array Value) (fr : Nat × Nat) (d : TypeDesc) (hS : ∀ w, S w → w.heap[g]? = some (.cells cs t fr))
    (hu : P.underlying ty = some d) (hd : (match d with | .struct _ | .array _ _ => true | _ => false) = true) (hi : (P.info? ty).map (·.size) = some cs.size) : YieldsIf P ops S op (.agg cs) a :=
  .inl ⟨hw, fun w hw' => by
    unfold execOp
    simp only [ho, hx, Instr.loadAt, Instr.sureAddr, Sem.run_bind, Sem.run_pure, Result.andThen_ok, run_loadVar_row w g t ty cs fr d (hS w hw') hu hd hi]⟩
theorem updS_off (f : Nat → Bool) (z : Int) : updS (updS f z true) z false = updS f z false := by
  funext k
  unfold updS
  by_cases h : (k : Int) = z
  · rw [if_pos h, if_pos h]
  · rw [if_neg h, if_neg h, if_neg h]
theorem isS_off (f : Nat → Bool) (z : Int) : isS (updS f z false) z = false := by
  unfold isS updS
  by_cases h : 0 ≤ z
  · rw [if_pos (by omega), Bool.and_false]
  · rw [decide_eq_false h, Bool.false_and]
theorem sv_off (f : Nat → Bool) (z : Int) (h : isS f z = false) : sv (updS f z false) = sv f := sv_ext fun k _ => by
  unfold updS
  by_cases e : (k : Int) = z
  · rw [if_pos e]
    unfold isS at h
    rw [decide_eq_true (by omega), Bool.true_and, show z.toNat = k by omega] at h
    exact h.symm
  · rw [if_neg e]
theorem lists_eq (f g : Nat → Bool) : strsB (listL f) (listL g) = eqS f g := by
  unfold strsB
  by_cases h : ∀ k, k < 18 → f k = g k
  · have e1 : listL f = listL g := by
      unfold listL
      rw [List.filter_congr (fun k hk => h k (List.mem_range.1 hk))]
    have e2 : eqS f g = true := by
      unfold eqS
      rw [List.all_eq_true]
      intro k hk
      rw [h k (List.mem_range.1 hk)]
      exact beq_self_eq_true _
    rw [e2, decide_eq_true e1]
  · have e2 : eqS f g = false := by
      rw [Bool.eq_false_iff]
      intro he
      unfold eqS at he
      rw [List.all_eq_true] at he
      exact h fun k hk => by simpa using he k (List.mem_range.2 hk)
    rw [e2, decide_eq_false]
    intro e
    exact h fun k hk => by rw [← listL_at f k hk, e, listL_at g k hk]
/-- Two boxes of sets, and the box of what is set and reset last. -/
structure B3 (W : World) (g5 g7 g8 : Nat) (f g : Nat → Bool) (oa : Bool) (ob : Int) (oc : Bool) : Prop where
  h5 : W.heap[g5]? = some (.cells #[.bool oa, .int .i64 ob, .bool oc] 33 (0, 0))
  h7 : W.heap[g7]? = some (.cells (sv f) 26 (0, 0))
  h8 : W.heap[g8]? = some (.cells (sv g) 26 (0, 0))
  n57 : g5 ≠ g7
  n58 : g5 ≠ g8
  n78 : g7 ≠ g8
theorem B3.past {W W' : World} {g5 g7 g8 : Nat} {f g : Nat → Bool} {oa : Bool} {ob : Int} {oc : Bool} (h : B3 W g5 g7 g8 f g oa ob oc) (hb : Below W.heap.size W W') : B3 W' g5 g7 g8 f g oa ob oc :=
  ⟨(hb.block _ (lt_of_block h.h5)).trans h.h5, (hb.block _ (lt_of_block h.h7)).trans h.h7, (hb.block _ (lt_of_block h.h8)).trans h.h8, h.n57, h.n58, h.n78⟩
theorem B3.set7 {W : World} {g5 g7 g8 : Nat} {f f' g : Nat → Bool} {oa : Bool} {ob : Int} {oc : Bool} (h : B3 W g5 g7 g8 f g oa ob oc) : B3 (W.setRow g7 (sv f')) g5 g7 g8 f' g oa ob oc :=
  ⟨(setRow_other _ _ _ _ h.n57).trans h.h5, setRow_heap _ _ _ _ _ _ h.h7, (setRow_other _ _ _ _ (fun e => h.n78 e.symm)).trans h.h8, h.n57, h.n58, h.n78⟩
theorem B3.set8 {W : World} {g5 g7 g8 : Nat} {f g g' : Nat → Bool} {oa : Bool} {ob : Int} {oc : Bool} (h : B3 W g5 g7 g8 f g oa ob oc) : B3 (W.setRow g8 (sv g')) g5 g7 g8 f g' oa ob oc :=
  ⟨(setRow_other _ _ _ _ h.n58).trans h.h5, (setRow_other _ _ _ _ h.n78).trans h.h7, setRow_heap _ _ _ _ _ _ h.h8, h.n57, h.n58, h.n78⟩
theorem B3.cells {W : World} {g5 g7 g8 : Nat} {f g : Nat → Bool} {oa : Bool} {ob : Int} {oc : Bool} (h : B3 W g5 g7 g8 f g oa ob oc) : W.cell? ⟨g5, 0, none⟩ = some (.bool oa) ∧ W.cell? ⟨g5, 1, none⟩ = some (.int .i64 ob) ∧ W.heap[g7]? = some (.cells (sv f) 26 (0, 0)) ∧ W.heap[g8]? = some (.cells (sv g) 26 (0, 0)) :=
  ⟨cell_of_row _ _ 0 _ _ _ h.h5, cell_of_row _ _ 1 _ _ _ h.h5, h.h7, h.h8⟩
/-- Both new sets, laid into their boxes. -/
theorem B3.start {w w2 : World} {oa : Bool} {ob : Int} {oc : Bool} (hb : Below (w.alloc (.cells #[.bool oa, .int .i64 ob, .bool oc] 33)).heap.size (w.alloc (.cells #[.bool oa, .int .i64 ob, .bool oc] 33)) w2) (f g : Nat → Bool) :
    B3 ((((w2.alloc (.cells zeroS 26)).alloc (.cells zeroS 26)).setRow w2.heap.size (sv f)).setRow (w2.heap.size + 1) (sv g)) w.heap.size w2.heap.size (w2.heap.size + 1) f g oa ob oc := by
  have hs := sz1 hb
  have y5 := (hb.block _ (by simp)).trans (heap_alloc_new w (.cells #[.bool oa, .int .i64 ob, .bool oc] 33))
  have h0 : B3 ((w2.alloc (.cells zeroS 26)).alloc (.cells zeroS 26)) w.heap.size w2.heap.size (w2.heap.size + 1) (fun _ => false) (fun _ => false) oa ob oc :=
    ⟨(heap_alloc_old _ _ (by simp; omega)).trans ((heap_alloc_old w2 _ hs).trans y5), heap_alloc2_old w2 _ _, heap_alloc2_new w2 _ _, by omega, by omega, by omega⟩
  exact h0.set7.set8
def SA (wa : World) (g5 g7 g8 : Nat) (f g : Nat → Bool) (oa : Bool) (ob : Int) (oc : Bool) (W : World) : Prop := B3 W g5 g7 g8 f g oa ob oc ∧ Below wa.heap.size wa W
theorem SA.b {wa : World} {g5 g7 g8 : Nat} {f g : Nat → Bool} {oa : Bool} {ob : Int} {oc : Bool} {W : World} (h : SA wa g5 g7 g8 f g oa ob oc W) : B3 W g5 g7 g8 f g oa ob oc := And.left h
theorem SA.below {wa : World} {g5 g7 g8 : Nat} {f g : Nat → Bool} {oa : Bool} {ob : Int} {oc : Bool} {W : World} (h : SA wa g5 g7 g8 f g oa ob oc W) : Below wa.heap.size wa W := And.right h
theorem SA.past {wa : World} {g5 g7 g8 : Nat} {f g : Nat → Bool} {oa : Bool} {ob : Int} {oc : Bool} {W W' : World} (h : SA wa g5 g7 g8 f g oa ob oc W) (hb : Below W.heap.size W W') : SA wa g5 g7 g8 f g oa ob oc W' := ⟨h.b.past hb, bel0 h.below hb⟩
theorem B3.far {w0 W : World} {g5 g7 g8 gb : Nat} {f g : Nat → Bool} {oa : Bool} {ob : Int} {oc : Bool} {cs : Array Value} (h0 : B3 w0 g5 g7 g8 f g oa ob oc) (h : B3 W g5 g7 g8 f g oa ob oc) (hg : w0.heap.size ≤ gb) : B3 (W.setRow gb cs) g5 g7 g8 f g oa ob oc := by
  have l5 := lt_of_block h0.h5
  have l7 := lt_of_block h0.h7
  have l8 := lt_of_block h0.h8
  exact ⟨(setRow_other _ _ _ _ (by omega)).trans h.h5, (setRow_other _ _ _ _ (by omega)).trans h.h7, (setRow_other _ _ _ _ (by omega)).trans h.h8, h.n57, h.n58, h.n78⟩
theorem SA.store {wa : World} {g5 g7 g8 gb : Nat} {f g : Nat → Bool} {oa : Bool} {ob : Int} {oc : Bool} {W : World} {cs : Array Value} (h0 : B3 wa g5 g7 g8 f g oa ob oc) (h : SA wa g5 g7 g8 f g oa ob oc W) (hg : wa.heap.size ≤ gb) : SA wa g5 g7 g8 f g oa ob oc (W.setRow gb cs) := ⟨h0.far h.b hg, below_setRow h.below hg cs⟩
def SB (wa : World) (g5 g7 g8 gb : Nat) (f g fb : Nat → Bool) (oa : Bool) (ob : Int) (oc : Bool) (W : World) : Prop := SA wa g5 g7 g8 f g oa ob oc W ∧ W.heap[gb]? = some (.cells (sv fb) 26 (0, 0))
theorem SB.b {wa : World} {g5 g7 g8 gb : Nat} {f g fb : Nat → Bool} {oa : Bool} {ob : Int} {oc : Bool} {W : World} (h : SB wa g5 g7 g8 gb f g fb oa ob oc W) : B3 W g5 g7 g8 f g oa ob oc := And.left (And.left h)
theorem SB.below {wa : World} {g5 g7 g8 gb : Nat} {f g fb : Nat → Bool} {oa : Bool} {ob : Int} {oc : Bool} {W : World} (h : SB wa g5 g7 g8 gb f g fb oa ob oc W) : Below wa.heap.size wa W := And.right (And.left h)
theorem SB.back {wa : World} {g5 g7 g8 gb : Nat} {f g fb : Nat → Bool} {oa : Bool} {ob : Int} {oc : Bool} {W : World} (h : SB wa g5 g7 g8 gb f g fb oa ob oc W) : W.heap[gb]? = some (.cells (sv fb) 26 (0, 0)) := And.right h
theorem SB.past {wa : World} {g5 g7 g8 gb : Nat} {f g fb : Nat → Bool} {oa : Bool} {ob : Int} {oc : Bool} {W W' : World} (h : SB wa g5 g7 g8 gb f g fb oa ob oc W) (hb : Below W.heap.size W W') : SB wa g5 g7 g8 gb f g fb oa ob oc W' := ⟨⟨h.b.past hb, bel0 h.below hb⟩, (hb.block _ (lt_of_block h.back)).trans h.back⟩
set_option maxRecDepth 100000 in
set_option maxHeartbeats 16000000 in
theorem modeApart_law (A : Option Addr) (l : List (Bool × Int × Bool)) (n cp : Nat) (hn : n = l.length) (A' : Option Addr) (l' : List (Bool × Int × Bool)) (n' cp' : Nat) (hn' : n' = l'.length) (oa : Bool) (ob : Int) (oc : Bool) (w : World) (hR : RO w w.heap.size A l) (hR' : RO w w.heap.size A' l') (hT : NT w) (hI : TI w) :
    Calls Tryd.prog 6 #[.slice A n cp, .slice A' n' cp', .agg #[.bool oa, .int .i64 ob, .bool oc]] w fun e w' => e = .returned (.bool true) ∧ Below w.heap.size w w' := by
  have HW := Lib.hid (belA (Below.refl w.heap.size w) (.cells #[.bool oa, .int .i64 ob, .bool oc] 33))
  by_cases h60 : (60 : Int) < n
  · clear hR hn hR' hn'
    have HAW := Lib.hid (awake_any _ (hT.below HW.out) (hI.below HW.out))
    go_enter Tryd.func6, Tryd.ntmps6
    go_wp2_with (go_at_call 7; (with_reducible refine (HAW.out).mono ?_); rintro e w0 ⟨rfl, hb⟩; have HB0 := Lib.hid (bel0 HW.out hb); clear hb)
    go_ret
    exact ⟨rfl, HB0.out⟩
  by_cases h61 : (60 : Int) < n'
  · have hd : decide ((60 : Int) < n) = false := decide_eq_false h60
    clear hR hn hR' hn' h60
    have HAW := Lib.hid (awake_any _ (hT.below HW.out) (hI.below HW.out))
    go_enter Tryd.func6, Tryd.ntmps6
    go_wp2_with (go_at_call 7; (with_reducible refine (HAW.out).mono ?_); rintro e w0 ⟨rfl, hb⟩; have HB0 := Lib.hid (bel0 HW.out hb); clear hb)
    go_ret
    exact ⟨rfl, HB0.out⟩
  have hd : decide ((60 : Int) < n) = false := decide_eq_false h60
  have hd' : decide ((60 : Int) < n') = false := decide_eq_false h61
  have hn60 : (n : Int) ≤ 60 := by omega
  have hn61 : (n' : Int) ≤ 60 := by omega
  have HR := Lib.hid hR
  have HN := Lib.hid hn
  have HR' := Lib.hid hR'
  have HN' := Lib.hid hn'
  have HT := Lib.hid hT
  have HI := Lib.hid hI
  have HAW := Lib.hid (awake_any _ (hT.below HW.out) (hI.below HW.out))
  clear hR hn hR' hn' hT hI h60 h61
  go_enter Tryd.func6, Tryd.ntmps6
  go_wp2_with (first
    | (go_at_call 7; (with_reducible refine (HAW.out).mono ?_); rintro e w0 ⟨rfl, hb⟩; have HB0 := Lib.hid hb; have HW0 := Lib.hid (bel0 HW.out hb); clear hb)
    | (go_at_call 8; (with_reducible refine (new_any _ (HT.out.below HW0.out)).mono ?_); rintro e w1 ⟨rfl, hb⟩; have HB1 := Lib.hid (HB0.out.trans (hb.mono HB0.out.size)); have HW1 := Lib.hid (bel0 HW0.out hb); clear hb)
    | (go_at_call 8; (with_reducible refine (new_any _ (HT.out.below HW1.out)).mono ?_); rintro e w2 ⟨rfl, hb⟩; have HB2 := Lib.hid (HB1.out.trans (hb.mono HB1.out.size)); have HW2 := Lib.hid (bel0 HW1.out hb); have HBS := Lib.hid (B3.start HB2.out firstF firstF); have Y7 := Lib.hid (heap_alloc2_old w2 (.cells zeroS 26) (.cells zeroS 26)); have Y8 : Hid ((((w2.alloc (.cells zeroS 26)).alloc (.cells zeroS 26)).setRow w2.heap.size (sv firstF)).heap[w2.heap.size + 1]? = some (.cells zeroS 26)) := Lib.hid ((setRow_other _ _ _ _ (by omega)).trans (heap_alloc2_new w2 (.cells zeroS 26) (.cells zeroS 26))); have HWS : Hid (Below w.heap.size w ((((w2.alloc (.cells zeroS 26)).alloc (.cells zeroS 26)).setRow w2.heap.size (sv firstF)).setRow (w2.heap.size + 1) (sv firstF))) := Lib.hid (row_below (cs := sv firstF) (row_below (cs := sv firstF) (belA (belA HW2.out (.cells zeroS 26)) (.cells zeroS 26)) HW2.out.size) (Nat.le_succ_of_le HW2.out.size)); clear hb)
    | (refine wpList_store_row rfl 26 _ _ rfl w2.heap.size _ rfl rfl 26 _ Y7.out (infoSet _) (by rw [zeroS_eq, sv_size, sv_size]) (sv_one _) ?_)
    | (refine wpList_store_row rfl 26 _ _ rfl (w2.heap.size + 1) _ rfl rfl 26 _ Y8.out (infoSet _) (by rw [zeroS_eq, sv_size, sv_size]) (sv_one _) ?_))
  have HG7 : Hid (w.heap.size ≤ w2.heap.size) := Lib.hid HW2.out.size
  have HG8 : Hid (w.heap.size ≤ w2.heap.size + 1) := Lib.hid (Nat.le_succ_of_le HW2.out.size)
  clear Y7 Y8 HB0 HB1 HB2 HW0 HW1 HW2 HAW HW
  generalize w2.heap.size + 1 = g8 at *
  generalize w2.heap.size = g7 at *
  go_loopw [9] (fun i wr => ∃ (k : Nat) (f : Nat → Bool), i = .int .i64 k ∧ k ≤ n ∧ Hid (B3 wr w.heap.size g7 g8 f firstF oa ob oc) ∧ Hid (Below w.heap.size w wr)) (fun i _ => n - (intOf i).toNat)
  case atStart => exact ⟨0, firstF, rfl, Nat.zero_le _, HBS, HWS⟩
  case round =>
    obtain ⟨k, f, rfl, hk, HY, HB⟩ := hrel
    by_cases hlt : k < n
    · obtain ⟨b, off, q, m, on, rfl, hbl, _, k0, k1, k2⟩ := HR.out.at HB.out k (by have := HN.out; omega)
      have hki : (k : Int) < n := by omega
      have HBL := Lib.hid hbl
      have hbw : b < wr.heap.size := Nat.lt_of_lt_of_le hbl HB.out.size
      have HBd := Lib.hid HB.out.drew
      have HC := Lib.hid (with_any f q m on wr.drew (HT.out.below HBd.out))
      have HYd : Hid (B3 wr.drew w.heap.size g7 g8 f firstF oa ob oc) := Lib.hid (HY.out.past (Below.refl _ _).drew)
      clear hbl
      go_wp2
      refine wp_region_still_tail 16 (by kernel_rfl) (by kernel_rfl) ?_
      simp only [List.take_succ_cons, List.take_zero, List.drop_succ_cons, List.drop_zero]
      refine wpStill_load_row rfl 26 _ rfl g7 rfl 26 _ (0, 0) _ HY.out.h7 Tryd.underlying26 rfl (infoSet _) ?_
      repeat still_step
      try refine wpStill_nil ?_
      change wpList _ _ _ _ _ wr.drew
      clear k0 k1 k2 HY hbw HB
      generalize wr.drew = wd at *
      go_wp2_with (first
        | (go_at_call 10; (with_reducible refine (HC.out).mono ?_); rintro e w3 ⟨rfl, hb⟩; have HY3 := Lib.hid (HYd.out.past hb); have HB3 := Lib.hid (bel0 HBd.out hb); clear hb)
        | (refine wpList_store_row rfl 26 _ _ rfl g7 _ rfl rfl 26 _ HY3.out.h7 (infoSet _) (by rw [sv_size, sv_size]) (sv_one _) ?_))
      go_roundw
      case rel => exact ⟨k + 1, _, by go_num, hlt, Lib.hid HY3.out.set7, Lib.hid (row_below HB3.out HG7.out)⟩
      case measure => simp [intOf]; omega
    · obtain rfl : k = n := by omega
      go_wp2
      go_loopw [10] (fun i wr => ∃ (k : Nat) (g : Nat → Bool), i = .int .i64 k ∧ k ≤ n' ∧ Hid (B3 wr w.heap.size g7 g8 f g oa ob oc) ∧ Hid (Below w.heap.size w wr)) (fun i _ => n' - (intOf i).toNat)
      case atStart => exact ⟨0, firstF, rfl, Nat.zero_le _, HY, HB⟩
      case round =>
        obtain ⟨k, g, rfl, hk, HY, HB⟩ := hrel
        by_cases hlt : k < n'
        · obtain ⟨b, off, q, m, on, rfl, hbl, _, k0, k1, k2⟩ := HR'.out.at HB.out k (by have := HN'.out; omega)
          have hki : (k : Int) < n' := by omega
          have HBL := Lib.hid hbl
          have hbw : b < wr.heap.size := Nat.lt_of_lt_of_le hbl HB.out.size
          have HBd := Lib.hid HB.out.drew
          have HC := Lib.hid (with_any g q m on wr.drew (HT.out.below HBd.out))
          have HYd : Hid (B3 wr.drew w.heap.size g7 g8 f g oa ob oc) := Lib.hid (HY.out.past (Below.refl _ _).drew)
          clear hbl
          go_wp2
          refine wp_region_still_tail 16 (by kernel_rfl) (by kernel_rfl) ?_
          simp only [List.take_succ_cons, List.take_zero, List.drop_succ_cons, List.drop_zero]
          refine wpStill_load_row rfl 26 _ rfl g8 rfl 26 _ (0, 0) _ HY.out.h8 Tryd.underlying26 rfl (infoSet _) ?_
          repeat still_step
          try refine wpStill_nil ?_
          change wpList _ _ _ _ _ wr.drew
          clear k0 k1 k2 HY hbw HB
          generalize wr.drew = wd at *
          go_wp2_with (first
            | (go_at_call 10; (with_reducible refine (HC.out).mono ?_); rintro e w3 ⟨rfl, hb⟩; have HY3 := Lib.hid (HYd.out.past hb); have HB3 := Lib.hid (bel0 HBd.out hb); clear hb)
            | (refine wpList_store_row rfl 26 _ _ rfl g8 _ rfl rfl 26 _ HY3.out.h8 (infoSet _) (by rw [sv_size, sv_size]) (sv_one _) ?_))
          go_roundw
          case rel => exact ⟨k + 1, _, by go_num, hlt, Lib.hid HY3.out.set8, Lib.hid (row_below HB3.out HG8.out)⟩
          case measure => simp [intOf]; omega
        · obtain rfl : k = n' := by omega
          have HZ1 : Hid (∀ W, Below w.heap.size w W → Calls Tryd.prog 10 #[.agg (sv f), .bool oa, .int .i64 ob, .bool true] W fun e w' => e = .returned (.agg (sv (updS f (placeZ oa ob) true))) ∧ Below W.heap.size W w') := Lib.hid fun W hb => with_any f oa ob true W (HT.out.below hb)
          have HZ2 : Hid (∀ W, Below w.heap.size w W → Calls Tryd.prog 10 #[.agg (sv (updS f (placeZ oa ob) true)), .bool oa, .int .i64 ob, .bool false] W fun e w' => e = .returned (.agg (sv (updS f (placeZ oa ob) false))) ∧ Below W.heap.size W w') := Lib.hid fun W hb => by
            have h := with_any (updS f (placeZ oa ob) true) oa ob false W (HT.out.below hb)
            rwa [updS_off] at h
          have HZ3 : Hid (∀ W, Below w.heap.size w W → Calls Tryd.prog 10 #[.agg (sv f), .bool oa, .int .i64 ob, .bool false] W fun e w' => e = .returned (.agg (sv (updS f (placeZ oa ob) false))) ∧ Below W.heap.size W w') := Lib.hid fun W hb => with_any f oa ob false W (HT.out.below hb)
          have HL1 : Hid (∀ W, Below w.heap.size w W → Calls Tryd.prog 14 #[.agg (sv f)] W (StrsPost (listL f) W)) := Lib.hid fun W hb => list_any f W (HT.out.below hb) (HI.out.below hb)
          have HL2 : Hid (∀ W, Below w.heap.size w W → Calls Tryd.prog 14 #[.agg (sv g)] W (StrsPost (listL g) W)) := Lib.hid fun W hb => list_any g W (HT.out.below hb) (HI.out.below hb)
          have HSM : Hid (∀ A1 A2 c1 c2 W, RT W W.heap.size A1 (listL f) → RT W W.heap.size A2 (listL g) → Calls Tryd.prog 13 #[.slice A1 (listL f).length c1, .slice A2 (listL g).length c2] W fun e w' => e = .returned (.bool (eqS f g)) ∧ Below W.heap.size W w') := Lib.hid fun A1 A2 c1 c2 W h1 h2 => by
            have h := strs_any A1 A2 (listL f) (listL g) _ _ c1 c2 rfl rfl (by have := listL_le f; omega) W h1 h2
            rwa [lists_eq] at h
          have HIB : Hid (∀ W, Below w.heap.size w W → Calls Tryd.prog 15 #[.agg (sv (updS f (placeZ oa ob) false)), .bool oa, .int .i64 ob] W fun e w' => e = .returned (.bool false) ∧ Below W.heap.size W w') := Lib.hid fun W hb => by
            have h := is_any (updS f (placeZ oa ob) false) oa ob W (HT.out.below hb)
            rwa [isS_off] at h
          have HIF : Hid (∀ W, Below w.heap.size w W → Calls Tryd.prog 15 #[.agg (sv f), .bool oa, .int .i64 ob] W fun e w' => e = .returned (.bool (isS f (placeZ oa ob))) ∧ Below W.heap.size W w') := Lib.hid fun W hb => is_any f oa ob W (HT.out.below hb)
          have HOFF := Lib.hid (sv_off f (placeZ oa ob))
          have he1 : ∀ W, (Op.equalIn 10000 26 (.agg (sv f)) (.agg (sv g))).run Tryd.prog W = .ok (eqS f g) W := fun W => eqSet W f g
          have he2 : ∀ W, (Op.equalIn 10000 26 (.agg (sv (updS f (placeZ oa ob) false))) (.agg (sv (updS f (placeZ oa ob) false)))).run Tryd.prog W = .ok true W := fun W => by
            rw [eqSet W, eqS_self]
          have HE3 : Hid (isS f (placeZ oa ob) = false → ∀ W, (Op.equalIn 10000 26 (.agg (sv (updS f (placeZ oa ob) false))) (.agg (sv f))).run Tryd.prog W = .ok true W) := Lib.hid fun h W => by
            rw [HOFF.out h, eqSet W, eqS_self]
          have hg := guardSet
          have hbb := beq_b (eqS f g)
          clear HOFF
          generalize eqS f g = b1 at *
          generalize isS f (placeZ oa ob) = b2 at *
          generalize updS f (placeZ oa ob) false = fb at *
          generalize updS f (placeZ oa ob) true = f1 at *
          go_upto_region 12 with fail
          go_cut [11] (fun s11 wx => ∃ gb : Nat, s11 = .pointer (some ⟨gb, 0, none⟩) ∧ Hid (wx.heap[gb]? = some (.cells (sv fb) 26 (0, 0))) ∧ Hid (B3 wx w.heap.size g7 g8 f g oa ob oc) ∧ Hid (Below wr.heap.size wr wx))
          case first =>
            clear HZ3 HL1 HL2 HSM HIB HIF he1 he2 HE3 hg hbb
            refine wp_region_held_drew (S := SA wr w.heap.size g7 g8 f g oa ob oc) (by kernel_rfl) ⟨HY.out.past (Below.refl _ _).drew, (Below.refl _ _).drew⟩ (fun hS0 => ?_)
            refine wpAnyH_take (i := 0) (oi := _) (v := _) rfl (by kernel_rfl) (by kernel_rfl) (by kernel_rfl) (fun _ _ _ h => h) (yields_load_row (by rfl) 26 _ rfl g7 rfl 26 (sv f) (0, 0) _ (fun W h => h.b.h7) Tryd.underlying26 rfl (infoSet _)) hS0 ?_
            (try simp only [List.getElem_toArray]); (try simp only [List.getElem_cons_succ]); (try simp only [List.getElem_cons_zero]); (try simp only [Act.put]); (try simp only [List.setIfInBounds_toArray]); (try simp only [List.set_cons_succ]); (try simp only [List.set_cons_zero])
            refine wpAnyH_take (i := 1) (oi := _) (v := ?_) rfl (by kernel_rfl) (by kernel_rfl) (by kernel_rfl) (fun _ _ _ h => h) (Or.inl ⟨by rfl, ?_⟩) hS0 ?_
            rotate_left
            · intro W hSw
              obtain ⟨c0, c1, _, _⟩ := hSw.b.cells
              clear hSw
              go_simp
              (try with_reducible rfl)
            (try simp only [List.getElem_toArray]); (try simp only [List.getElem_cons_succ]); (try simp only [List.getElem_cons_zero]); (try simp only [Act.put]); (try simp only [List.setIfInBounds_toArray]); (try simp only [List.set_cons_succ]); (try simp only [List.set_cons_zero])
            refine wpAnyH_take (i := 2) (oi := _) (v := ?_) rfl (by kernel_rfl) (by kernel_rfl) (by kernel_rfl) (fun _ _ _ h => h) (Or.inl ⟨by rfl, ?_⟩) hS0 ?_
            rotate_left
            · intro W hSw
              obtain ⟨c0, c1, _, _⟩ := hSw.b.cells
              clear hSw
              go_simp
              (try with_reducible rfl)
            (try simp only [List.getElem_toArray]); (try simp only [List.getElem_cons_succ]); (try simp only [List.getElem_cons_zero]); (try simp only [Act.put]); (try simp only [List.setIfInBounds_toArray]); (try simp only [List.set_cons_succ]); (try simp only [List.set_cons_zero])
            refine wpAnyH_take (i := 3) (oi := _) (v := ?_) rfl (by kernel_rfl) (by kernel_rfl) (by kernel_rfl) (fun _ _ _ h => h) (Or.inl ⟨by rfl, ?_⟩) hS0 ?_
            rotate_left
            · intro W hSw
              obtain ⟨c0, c1, _, _⟩ := hSw.b.cells
              clear hSw
              go_simp
              (try with_reducible rfl)
            (try simp only [List.getElem_toArray]); (try simp only [List.getElem_cons_succ]); (try simp only [List.getElem_cons_zero]); (try simp only [Act.put]); (try simp only [List.setIfInBounds_toArray]); (try simp only [List.set_cons_succ]); (try simp only [List.set_cons_zero])
            refine wpAnyH_take (i := 4) (oi := _) (v := ?_) rfl (by kernel_rfl) (by kernel_rfl) (by kernel_rfl) (fun _ _ _ h => h) (Or.inl ⟨by rfl, ?_⟩) hS0 ?_
            rotate_left
            · intro W hSw
              obtain ⟨c0, c1, _, _⟩ := hSw.b.cells
              clear hSw
              go_simp
              (try with_reducible rfl)
            (try simp only [List.getElem_toArray]); (try simp only [List.getElem_cons_succ]); (try simp only [List.getElem_cons_zero]); (try simp only [Act.put]); (try simp only [List.setIfInBounds_toArray]); (try simp only [List.set_cons_succ]); (try simp only [List.set_cons_zero])
            refine wpAnyH_take (i := 6) (oi := _) (v := ?_) rfl (by kernel_rfl) (by kernel_rfl) (by kernel_rfl) (fun _ _ _ h => h) (Or.inl ⟨by rfl, ?_⟩) hS0 ?_
            rotate_left
            · intro W hSw
              obtain ⟨c0, c1, _, _⟩ := hSw.b.cells
              clear hSw
              go_simp
              (try with_reducible rfl)
            (try simp only [List.getElem_toArray]); (try simp only [List.getElem_cons_succ]); (try simp only [List.getElem_cons_zero]); (try simp only [Act.put]); (try simp only [List.setIfInBounds_toArray]); (try simp only [List.set_cons_succ]); (try simp only [List.set_cons_zero])
            refine wpAnyH_take (i := 7) (oi := _) (v := ?_) rfl (by kernel_rfl) (by kernel_rfl) (by kernel_rfl) (fun _ _ _ h => h) (Or.inl ⟨by rfl, ?_⟩) hS0 ?_
            rotate_left
            · intro W hSw
              obtain ⟨c0, c1, _, _⟩ := hSw.b.cells
              clear hSw
              go_simp
              (try with_reducible rfl)
            (try simp only [List.getElem_toArray]); (try simp only [List.getElem_cons_succ]); (try simp only [List.getElem_cons_zero]); (try simp only [Act.put]); (try simp only [List.setIfInBounds_toArray]); (try simp only [List.set_cons_succ]); (try simp only [List.set_cons_zero])
            refine wpAnyH_take (i := 8) (oi := _) (v := ?_) rfl (by kernel_rfl) (by kernel_rfl) (by kernel_rfl) (fun _ _ _ h => h) (Or.inl ⟨by rfl, ?_⟩) hS0 ?_
            rotate_left
            · intro W hSw
              obtain ⟨c0, c1, _, _⟩ := hSw.b.cells
              clear hSw
              go_simp
              (try with_reducible rfl)
            (try simp only [List.getElem_toArray]); (try simp only [List.getElem_cons_succ]); (try simp only [List.getElem_cons_zero]); (try simp only [Act.put]); (try simp only [List.setIfInBounds_toArray]); (try simp only [List.set_cons_succ]); (try simp only [List.set_cons_zero])
            refine wpAnyH_take (i := 9) (oi := _) (v := ?_) rfl (by kernel_rfl) (by kernel_rfl) (by kernel_rfl) (fun _ _ _ h => h) (Or.inl ⟨by rfl, ?_⟩) hS0 ?_
            rotate_left
            · intro W hSw
              obtain ⟨c0, c1, _, _⟩ := hSw.b.cells
              clear hSw
              go_simp
              (try with_reducible rfl)
            (try simp only [List.getElem_toArray]); (try simp only [List.getElem_cons_succ]); (try simp only [List.getElem_cons_zero]); (try simp only [Act.put]); (try simp only [List.setIfInBounds_toArray]); (try simp only [List.set_cons_succ]); (try simp only [List.set_cons_zero])
            refine wpAnyH_ready (rs := [5, 11]) (by kernel_rfl) (by simp) ?_
            refine AllReadyH.cons (o := _) rfl (fun K hK => ?_) (AllReadyH.cons (o := _) rfl (fun K hK => ?_) AllReadyH.nil)
            · go_simp
              refine (HZ1.out _ (bel0 HB.out hS0.below)).mono ?_
              rintro e x5 ⟨rfl, hb5⟩
              refine hK.out _ _ (SA.past hS0 hb5) (fun hS0c5 => ?_)
              clear hK K
              (try simp only [List.getElem_toArray]); (try simp only [List.getElem_cons_succ]); (try simp only [List.getElem_cons_zero]); (try simp only [Act.put]); (try simp only [List.setIfInBounds_toArray]); (try simp only [List.set_cons_succ]); (try simp only [List.set_cons_zero])
              refine wpAnyH_ready (rs := [10, 11]) (by kernel_rfl) (by simp) ?_
              refine AllReadyH.cons (o := _) rfl (fun K hK => ?_) (AllReadyH.cons (o := _) rfl (fun K hK => ?_) AllReadyH.nil)
              · go_simp
                refine (HZ2.out _ (bel0 HB.out hS0c5.below)).mono ?_
                rintro e x10 ⟨rfl, hb10⟩
                refine hK.out _ _ (SA.past hS0c5 hb10) (fun hS0c5c10 => ?_)
                clear hK K
                (try simp only [List.getElem_toArray]); (try simp only [List.getElem_cons_succ]); (try simp only [List.getElem_cons_zero]); (try simp only [Act.put]); (try simp only [List.setIfInBounds_toArray]); (try simp only [List.set_cons_succ]); (try simp only [List.set_cons_zero])
                refine wpAnyH_ready (rs := [11]) (by kernel_rfl) (by simp) ?_
                refine AllReadyH.cons (o := _) rfl (fun K hK => ?_) AllReadyH.nil
                go_simp
                have Y11 : (x10.alloc (.cells zeroS 26)).heap[x10.heap.size]? = some (.cells zeroS 26) := heap_alloc_new _ _
                have GE : wr.heap.size ≤ x10.heap.size := hS0c5c10.below.size
                refine hK.out _ _ (SA.past hS0c5c10 (belA (Below.refl _ _) _)) (fun hS0c5c10a => ?_)
                clear hK K
                (try simp only [List.getElem_toArray]); (try simp only [List.getElem_cons_succ]); (try simp only [List.getElem_cons_zero]); (try simp only [Act.put]); (try simp only [List.setIfInBounds_toArray]); (try simp only [List.set_cons_succ]); (try simp only [List.set_cons_zero])
                refine wpAnyH_ready (rs := [12]) (by kernel_rfl) (by simp) ?_
                refine AllReadyH.cons (o := _) rfl (fun K hK => ?_) AllReadyH.nil
                rw [if_pos (by rfl)]
                refine wp_store_row 26 _ _ rfl x10.heap.size _ rfl rfl 26 _ Y11 (infoSet _) (by rw [zeroS_eq, sv_size, sv_size]) (sv_one _) ?_
                have hge : wr.heap.size ≤ x10.heap.size := GE
                refine hK.out _ _ (SA.store HY.out hS0c5c10a hge) (fun hSz => ?_)
                clear hK K
                (try simp only [List.getElem_toArray]); (try simp only [List.getElem_cons_succ]); (try simp only [List.getElem_cons_zero]); (try simp only [Act.put]); (try simp only [List.setIfInBounds_toArray]); (try simp only [List.set_cons_succ]); (try simp only [List.set_cons_zero])
                refine wpAnyH_done (by kernel_rfl) ?_ _
                go_wp2
                go_meet
                exact ⟨_, rfl, Lib.hid (setRow_heap _ _ _ _ _ _ Y11), Lib.hid hSz.b, Lib.hid hSz.below⟩
              · go_simp
                have Y11 : (x5.alloc (.cells zeroS 26)).heap[x5.heap.size]? = some (.cells zeroS 26) := heap_alloc_new _ _
                have GE : wr.heap.size ≤ x5.heap.size := hS0c5.below.size
                refine hK.out _ _ (SA.past hS0c5 (belA (Below.refl _ _) _)) (fun hS0c5a => ?_)
                clear hK K
                (try simp only [List.getElem_toArray]); (try simp only [List.getElem_cons_succ]); (try simp only [List.getElem_cons_zero]); (try simp only [Act.put]); (try simp only [List.setIfInBounds_toArray]); (try simp only [List.set_cons_succ]); (try simp only [List.set_cons_zero])
                refine wpAnyH_ready (rs := [10]) (by kernel_rfl) (by simp) ?_
                refine AllReadyH.cons (o := _) rfl (fun K hK => ?_) AllReadyH.nil
                go_simp
                refine (HZ2.out _ (bel0 HB.out hS0c5a.below)).mono ?_
                rintro e x10 ⟨rfl, hb10⟩
                refine hK.out _ _ (SA.past hS0c5a hb10) (fun hS0c5ac10 => ?_)
                clear hK K
                replace Y11 := (hb10.block _ (lt_of_block Y11)).trans Y11
                (try simp only [List.getElem_toArray]); (try simp only [List.getElem_cons_succ]); (try simp only [List.getElem_cons_zero]); (try simp only [Act.put]); (try simp only [List.setIfInBounds_toArray]); (try simp only [List.set_cons_succ]); (try simp only [List.set_cons_zero])
                refine wpAnyH_ready (rs := [12]) (by kernel_rfl) (by simp) ?_
                refine AllReadyH.cons (o := _) rfl (fun K hK => ?_) AllReadyH.nil
                rw [if_pos (by rfl)]
                refine wp_store_row 26 _ _ rfl x5.heap.size _ rfl rfl 26 _ Y11 (infoSet _) (by rw [zeroS_eq, sv_size, sv_size]) (sv_one _) ?_
                have hge : wr.heap.size ≤ x5.heap.size := GE
                refine hK.out _ _ (SA.store HY.out hS0c5ac10 hge) (fun hSz => ?_)
                clear hK K
                (try simp only [List.getElem_toArray]); (try simp only [List.getElem_cons_succ]); (try simp only [List.getElem_cons_zero]); (try simp only [Act.put]); (try simp only [List.setIfInBounds_toArray]); (try simp only [List.set_cons_succ]); (try simp only [List.set_cons_zero])
                refine wpAnyH_done (by kernel_rfl) ?_ _
                go_wp2
                go_meet
                exact ⟨_, rfl, Lib.hid (setRow_heap _ _ _ _ _ _ Y11), Lib.hid hSz.b, Lib.hid hSz.below⟩
            · go_simp
              have Y11 : (wr.drew.alloc (.cells zeroS 26)).heap[wr.drew.heap.size]? = some (.cells zeroS 26) := heap_alloc_new _ _
              have GE : wr.heap.size ≤ wr.drew.heap.size := hS0.below.size
              refine hK.out _ _ (SA.past hS0 (belA (Below.refl _ _) _)) (fun hS0a => ?_)
              clear hK K
              (try simp only [List.getElem_toArray]); (try simp only [List.getElem_cons_succ]); (try simp only [List.getElem_cons_zero]); (try simp only [Act.put]); (try simp only [List.setIfInBounds_toArray]); (try simp only [List.set_cons_succ]); (try simp only [List.set_cons_zero])
              refine wpAnyH_ready (rs := [5]) (by kernel_rfl) (by simp) ?_
              refine AllReadyH.cons (o := _) rfl (fun K hK => ?_) AllReadyH.nil
              go_simp
              refine (HZ1.out _ (bel0 HB.out hS0a.below)).mono ?_
              rintro e x5 ⟨rfl, hb5⟩
              refine hK.out _ _ (SA.past hS0a hb5) (fun hS0ac5 => ?_)
              clear hK K
              replace Y11 := (hb5.block _ (lt_of_block Y11)).trans Y11
              (try simp only [List.getElem_toArray]); (try simp only [List.getElem_cons_succ]); (try simp only [List.getElem_cons_zero]); (try simp only [Act.put]); (try simp only [List.setIfInBounds_toArray]); (try simp only [List.set_cons_succ]); (try simp only [List.set_cons_zero])
              refine wpAnyH_ready (rs := [10]) (by kernel_rfl) (by simp) ?_
              refine AllReadyH.cons (o := _) rfl (fun K hK => ?_) AllReadyH.nil
              go_simp
              refine (HZ2.out _ (bel0 HB.out hS0ac5.below)).mono ?_
              rintro e x10 ⟨rfl, hb10⟩
              refine hK.out _ _ (SA.past hS0ac5 hb10) (fun hS0ac5c10 => ?_)
              clear hK K
              replace Y11 := (hb10.block _ (lt_of_block Y11)).trans Y11
              (try simp only [List.getElem_toArray]); (try simp only [List.getElem_cons_succ]); (try simp only [List.getElem_cons_zero]); (try simp only [Act.put]); (try simp only [List.setIfInBounds_toArray]); (try simp only [List.set_cons_succ]); (try simp only [List.set_cons_zero])
              refine wpAnyH_ready (rs := [12]) (by kernel_rfl) (by simp) ?_
              refine AllReadyH.cons (o := _) rfl (fun K hK => ?_) AllReadyH.nil
              rw [if_pos (by rfl)]
              refine wp_store_row 26 _ _ rfl wr.drew.heap.size _ rfl rfl 26 _ Y11 (infoSet _) (by rw [zeroS_eq, sv_size, sv_size]) (sv_one _) ?_
              have hge : wr.heap.size ≤ wr.drew.heap.size := GE
              refine hK.out _ _ (SA.store HY.out hS0ac5c10 hge) (fun hSz => ?_)
              clear hK K
              (try simp only [List.getElem_toArray]); (try simp only [List.getElem_cons_succ]); (try simp only [List.getElem_cons_zero]); (try simp only [Act.put]); (try simp only [List.setIfInBounds_toArray]); (try simp only [List.set_cons_succ]); (try simp only [List.set_cons_zero])
              refine wpAnyH_done (by kernel_rfl) ?_ _
              go_wp2
              go_meet
              exact ⟨_, rfl, Lib.hid (setRow_heap _ _ _ _ _ _ Y11), Lib.hid hSz.b, Lib.hid hSz.below⟩
          obtain ⟨gb, rfl, HGB, HYX, HBX⟩ := hcut
          go_upto_region 13 with fail
          cases b2 with
          | true =>
            refine wp_region_held_drew (S := SB wc w.heap.size g7 g8 gb f g fb oa ob oc) (by kernel_rfl) ⟨⟨HYX.out.past (Below.refl _ _).drew, (Below.refl _ _).drew⟩, HGB.out⟩ (fun hS0 => ?_)
            refine wpAnyH_take (i := 0) (oi := _) (v := _) rfl (by kernel_rfl) (by kernel_rfl) (by kernel_rfl) (fun _ _ _ h => h) (yields_load_row (by rfl) 26 _ rfl g7 rfl 26 (sv f) (0, 0) _ (fun W h => h.b.h7) Tryd.underlying26 rfl (infoSet _)) hS0 ?_
            (try simp only [List.getElem_toArray]); (try simp only [List.getElem_cons_succ]); (try simp only [List.getElem_cons_zero]); (try simp only [Act.put]); (try simp only [List.setIfInBounds_toArray]); (try simp only [List.set_cons_succ]); (try simp only [List.set_cons_zero])
            refine wpAnyH_take (i := 1) (oi := _) (v := _) rfl (by kernel_rfl) (by kernel_rfl) (by kernel_rfl) (fun _ _ _ h => h) (yields_load_row (by rfl) 26 _ rfl g8 rfl 26 (sv g) (0, 0) _ (fun W h => h.b.h8) Tryd.underlying26 rfl (infoSet _)) hS0 ?_
            (try simp only [List.getElem_toArray]); (try simp only [List.getElem_cons_succ]); (try simp only [List.getElem_cons_zero]); (try simp only [Act.put]); (try simp only [List.setIfInBounds_toArray]); (try simp only [List.set_cons_succ]); (try simp only [List.set_cons_zero])
            refine wpAnyH_take (i := 2) (oi := _) (v := ?_) rfl (by kernel_rfl) (by kernel_rfl) (by kernel_rfl) (fun _ _ _ h => h) (Or.inl ⟨by rfl, ?_⟩) hS0 ?_
            rotate_left
            · intro W hSw
              obtain ⟨c0, c1, _, _⟩ := hSw.b.cells
              clear hSw
              go_simp
              (try with_reducible rfl)
            (try simp only [List.getElem_toArray]); (try simp only [List.getElem_cons_succ]); (try simp only [List.getElem_cons_zero]); (try simp only [Act.put]); (try simp only [List.setIfInBounds_toArray]); (try simp only [List.set_cons_succ]); (try simp only [List.set_cons_zero])
            refine wpAnyH_take (i := 3) (oi := _) (v := _) rfl (by kernel_rfl) (by kernel_rfl) (by kernel_rfl) (fun _ _ _ h => h) (yields_load_row (by rfl) 26 _ rfl g7 rfl 26 (sv f) (0, 0) _ (fun W h => h.b.h7) Tryd.underlying26 rfl (infoSet _)) hS0 ?_
            (try simp only [List.getElem_toArray]); (try simp only [List.getElem_cons_succ]); (try simp only [List.getElem_cons_zero]); (try simp only [Act.put]); (try simp only [List.setIfInBounds_toArray]); (try simp only [List.set_cons_succ]); (try simp only [List.set_cons_zero])
            refine wpAnyH_take (i := 5) (oi := _) (v := _) rfl (by kernel_rfl) (by kernel_rfl) (by kernel_rfl) (fun _ _ _ h => h) (yields_load_row (by rfl) 26 _ rfl g8 rfl 26 (sv g) (0, 0) _ (fun W h => h.b.h8) Tryd.underlying26 rfl (infoSet _)) hS0 ?_
            (try simp only [List.getElem_toArray]); (try simp only [List.getElem_cons_succ]); (try simp only [List.getElem_cons_zero]); (try simp only [Act.put]); (try simp only [List.setIfInBounds_toArray]); (try simp only [List.set_cons_succ]); (try simp only [List.set_cons_zero])
            refine wpAnyH_ready (rs := [4]) (by kernel_rfl) (by simp) ?_
            refine AllReadyH.cons (o := _) rfl (fun K hK => ?_) AllReadyH.nil
            go_simp
            refine (HL1.out _ (bel0 HB.out (bel0 HBX.out hS0.below))).mono ?_
            rintro e x4 ⟨v1, rfl, ho, hb⟩
            obtain ⟨A1, c1, hf1, _⟩ := own_form ho
            subst hf1
            have HR1 := RT.of_own ho
            clear ho
            refine hK.out _ _ (SB.past hS0 hb) (fun hS1 => ?_)
            clear hK K
            (try simp only [List.getElem_toArray]); (try simp only [List.getElem_cons_succ]); (try simp only [List.getElem_cons_zero]); (try simp only [Act.put]); (try simp only [List.setIfInBounds_toArray]); (try simp only [List.set_cons_succ]); (try simp only [List.set_cons_zero])
            refine wpAnyH_ready (rs := [6]) (by kernel_rfl) (by simp) ?_
            refine AllReadyH.cons (o := _) rfl (fun K hK => ?_) AllReadyH.nil
            go_simp
            refine (HL2.out _ (bel0 HB.out (bel0 HBX.out hS1.below))).mono ?_
            rintro e x6 ⟨v2, rfl, ho, hb⟩
            obtain ⟨A2, c2, hf2, _⟩ := own_form ho
            subst hf2
            have HR2 := RT.of_own ho
            replace HR1 := (HR1.below hb).more hb.size
            clear ho
            refine hK.out _ _ (SB.past hS1 hb) (fun hS2 => ?_)
            clear hK K
            (try simp only [List.getElem_toArray]); (try simp only [List.getElem_cons_succ]); (try simp only [List.getElem_cons_zero]); (try simp only [Act.put]); (try simp only [List.setIfInBounds_toArray]); (try simp only [List.set_cons_succ]); (try simp only [List.set_cons_zero])
            refine wpAnyH_ready (rs := [7]) (by kernel_rfl) (by simp) ?_
            refine AllReadyH.cons (o := _) rfl (fun K hK => ?_) AllReadyH.nil
            go_simp
            refine (HSM.out _ _ _ _ _ HR1 HR2).mono ?_
            rintro e x7 ⟨rfl, hb⟩
            clear HR1 HR2
            refine hK.out _ _ (SB.past hS2 hb) (fun hS3 => ?_)
            clear hK K
            (try simp only [List.getElem_toArray]); (try simp only [List.getElem_cons_succ]); (try simp only [List.getElem_cons_zero]); (try simp only [Act.put]); (try simp only [List.setIfInBounds_toArray]); (try simp only [List.set_cons_succ]); (try simp only [List.set_cons_zero])
            refine wpAnyH_take (i := 8) (oi := _) (v := ?_) rfl (by kernel_rfl) (by kernel_rfl) (by kernel_rfl) (fun _ _ _ h => h) (Or.inl ⟨by rfl, ?_⟩) hS3 ?_
            rotate_left
            · intro W hSw
              obtain ⟨c0, c1, _, _⟩ := hSw.b.cells
              clear hSw
              go_simp
              (try with_reducible rfl)
            (try simp only [List.getElem_toArray]); (try simp only [List.getElem_cons_succ]); (try simp only [List.getElem_cons_zero]); (try simp only [Act.put]); (try simp only [List.setIfInBounds_toArray]); (try simp only [List.set_cons_succ]); (try simp only [List.set_cons_zero])
            refine wpAnyH_take (i := 9) (oi := _) (v := ?_) rfl (by kernel_rfl) (by kernel_rfl) (by kernel_rfl) (fun _ _ _ h => h) (Or.inl ⟨by rfl, ?_⟩) hS3 ?_
            rotate_left
            · intro W hSw
              obtain ⟨c0, c1, _, _⟩ := hSw.b.cells
              clear hSw
              go_simp
              (try with_reducible rfl)
            (try simp only [List.getElem_toArray]); (try simp only [List.getElem_cons_succ]); (try simp only [List.getElem_cons_zero]); (try simp only [Act.put]); (try simp only [List.setIfInBounds_toArray]); (try simp only [List.set_cons_succ]); (try simp only [List.set_cons_zero])
            refine wpAnyH_take (i := 10) (oi := _) (v := _) rfl (by kernel_rfl) (by kernel_rfl) (by kernel_rfl) (fun _ _ _ h => h) (yields_load_row (by rfl) 26 _ rfl gb rfl 26 (sv fb) (0, 0) _ (fun W h => h.back) Tryd.underlying26 rfl (infoSet _)) hS3 ?_
            (try simp only [List.getElem_toArray]); (try simp only [List.getElem_cons_succ]); (try simp only [List.getElem_cons_zero]); (try simp only [Act.put]); (try simp only [List.setIfInBounds_toArray]); (try simp only [List.set_cons_succ]); (try simp only [List.set_cons_zero])
            refine wpAnyH_take (i := 11) (oi := _) (v := ?_) rfl (by kernel_rfl) (by kernel_rfl) (by kernel_rfl) (fun _ _ _ h => h) (Or.inl ⟨by rfl, ?_⟩) hS3 ?_
            rotate_left
            · intro W hSw
              obtain ⟨c0, c1, _, _⟩ := hSw.b.cells
              clear hSw
              go_simp
              (try with_reducible rfl)
            (try simp only [List.getElem_toArray]); (try simp only [List.getElem_cons_succ]); (try simp only [List.getElem_cons_zero]); (try simp only [Act.put]); (try simp only [List.setIfInBounds_toArray]); (try simp only [List.set_cons_succ]); (try simp only [List.set_cons_zero])
            refine wpAnyH_take (i := 12) (oi := _) (v := ?_) rfl (by kernel_rfl) (by kernel_rfl) (by kernel_rfl) (fun _ _ _ h => h) (Or.inl ⟨by rfl, ?_⟩) hS3 ?_
            rotate_left
            · intro W hSw
              obtain ⟨c0, c1, _, _⟩ := hSw.b.cells
              clear hSw
              go_simp
              (try with_reducible rfl)
            (try simp only [List.getElem_toArray]); (try simp only [List.getElem_cons_succ]); (try simp only [List.getElem_cons_zero]); (try simp only [Act.put]); (try simp only [List.setIfInBounds_toArray]); (try simp only [List.set_cons_succ]); (try simp only [List.set_cons_zero])
            refine wpAnyH_take (i := 13) (oi := _) (v := ?_) rfl (by kernel_rfl) (by kernel_rfl) (by kernel_rfl) (fun _ _ _ h => h) (Or.inl ⟨by rfl, ?_⟩) hS3 ?_
            rotate_left
            · intro W hSw
              obtain ⟨c0, c1, _, _⟩ := hSw.b.cells
              clear hSw
              go_simp
              (try with_reducible rfl)
            (try simp only [List.getElem_toArray]); (try simp only [List.getElem_cons_succ]); (try simp only [List.getElem_cons_zero]); (try simp only [Act.put]); (try simp only [List.setIfInBounds_toArray]); (try simp only [List.set_cons_succ]); (try simp only [List.set_cons_zero])
            refine wpAnyH_take (i := 14) (oi := _) (v := ?_) rfl (by kernel_rfl) (by kernel_rfl) (by kernel_rfl) (fun _ _ _ h => h) (Or.inl ⟨by rfl, ?_⟩) hS3 ?_
            rotate_left
            · intro W hSw
              obtain ⟨c0, c1, _, _⟩ := hSw.b.cells
              clear hSw
              go_simp
              (try with_reducible rfl)
            (try simp only [List.getElem_toArray]); (try simp only [List.getElem_cons_succ]); (try simp only [List.getElem_cons_zero]); (try simp only [Act.put]); (try simp only [List.setIfInBounds_toArray]); (try simp only [List.set_cons_succ]); (try simp only [List.set_cons_zero])
            refine wpAnyH_ready (rs := [15]) (by kernel_rfl) (by simp) ?_
            refine AllReadyH.cons (o := _) rfl (fun K hK => ?_) AllReadyH.nil
            go_simp
            refine (HIB.out _ (bel0 HB.out (bel0 HBX.out hS3.below))).mono ?_
            rintro e x15 ⟨rfl, hb⟩
            refine hK.out _ _ (SB.past hS3 hb) (fun hS4 => ?_)
            clear hK K
            (try simp only [List.getElem_toArray]); (try simp only [List.getElem_cons_succ]); (try simp only [List.getElem_cons_zero]); (try simp only [Act.put]); (try simp only [List.setIfInBounds_toArray]); (try simp only [List.set_cons_succ]); (try simp only [List.set_cons_zero])
            refine wpAnyH_take (i := 16) (oi := _) (v := ?_) rfl (by kernel_rfl) (by kernel_rfl) (by kernel_rfl) (fun _ _ _ h => h) (Or.inl ⟨by rfl, ?_⟩) hS4 ?_
            rotate_left
            · intro W hSw
              obtain ⟨c0, c1, _, _⟩ := hSw.b.cells
              clear hSw
              go_simp
              (try with_reducible rfl)
            (try simp only [List.getElem_toArray]); (try simp only [List.getElem_cons_succ]); (try simp only [List.getElem_cons_zero]); (try simp only [Act.put]); (try simp only [List.setIfInBounds_toArray]); (try simp only [List.set_cons_succ]); (try simp only [List.set_cons_zero])
            refine wpAnyH_take (i := 17) (oi := _) (v := ?_) rfl (by kernel_rfl) (by kernel_rfl) (by kernel_rfl) (fun _ _ _ h => h) (Or.inl ⟨by rfl, ?_⟩) hS4 ?_
            rotate_left
            · intro W hSw
              obtain ⟨c0, c1, _, _⟩ := hSw.b.cells
              clear hSw
              go_simp
              (try with_reducible rfl)
            (try simp only [List.getElem_toArray]); (try simp only [List.getElem_cons_succ]); (try simp only [List.getElem_cons_zero]); (try simp only [Act.put]); (try simp only [List.setIfInBounds_toArray]); (try simp only [List.set_cons_succ]); (try simp only [List.set_cons_zero])
            refine wpAnyH_take (i := 18) (oi := _) (v := ?_) rfl (by kernel_rfl) (by kernel_rfl) (by kernel_rfl) (fun _ _ _ h => h) (Or.inl ⟨by rfl, ?_⟩) hS4 ?_
            rotate_left
            · intro W hSw
              obtain ⟨c0, c1, _, _⟩ := hSw.b.cells
              clear hSw
              go_simp
              (try with_reducible rfl)
            (try simp only [List.getElem_toArray]); (try simp only [List.getElem_cons_succ]); (try simp only [List.getElem_cons_zero]); (try simp only [Act.put]); (try simp only [List.setIfInBounds_toArray]); (try simp only [List.set_cons_succ]); (try simp only [List.set_cons_zero])
            refine wpAnyH_take (i := 19) (oi := _) (v := _) rfl (by kernel_rfl) (by kernel_rfl) (by kernel_rfl) (fun _ _ _ h => h) (yields_load_row (by rfl) 26 _ rfl gb rfl 26 (sv fb) (0, 0) _ (fun W h => h.back) Tryd.underlying26 rfl (infoSet _)) hS4 ?_
            (try simp only [List.getElem_toArray]); (try simp only [List.getElem_cons_succ]); (try simp only [List.getElem_cons_zero]); (try simp only [Act.put]); (try simp only [List.setIfInBounds_toArray]); (try simp only [List.set_cons_succ]); (try simp only [List.set_cons_zero])
            refine wpAnyH_take (i := 20) (oi := _) (v := _) rfl (by kernel_rfl) (by kernel_rfl) (by kernel_rfl) (fun _ _ _ h => h) (yields_load_row (by rfl) 26 _ rfl g7 rfl 26 (sv f) (0, 0) _ (fun W h => h.b.h7) Tryd.underlying26 rfl (infoSet _)) hS4 ?_
            (try simp only [List.getElem_toArray]); (try simp only [List.getElem_cons_succ]); (try simp only [List.getElem_cons_zero]); (try simp only [Act.put]); (try simp only [List.setIfInBounds_toArray]); (try simp only [List.set_cons_succ]); (try simp only [List.set_cons_zero])
            refine wpAnyH_take (i := 21) (oi := _) (v := ?_) rfl (by kernel_rfl) (by kernel_rfl) (by kernel_rfl) (fun _ _ _ h => h) (Or.inl ⟨by rfl, ?_⟩) hS4 ?_
            rotate_left
            · intro W hSw
              obtain ⟨c0, c1, _, _⟩ := hSw.b.cells
              clear hSw
              go_simp
              (try with_reducible rfl)
            (try simp only [List.getElem_toArray]); (try simp only [List.getElem_cons_succ]); (try simp only [List.getElem_cons_zero]); (try simp only [Act.put]); (try simp only [List.setIfInBounds_toArray]); (try simp only [List.set_cons_succ]); (try simp only [List.set_cons_zero])
            refine wpAnyH_take (i := 22) (oi := _) (v := ?_) rfl (by kernel_rfl) (by kernel_rfl) (by kernel_rfl) (fun _ _ _ h => h) (Or.inl ⟨by rfl, ?_⟩) hS4 ?_
            rotate_left
            · intro W hSw
              obtain ⟨c0, c1, _, _⟩ := hSw.b.cells
              clear hSw
              go_simp
              (try with_reducible rfl)
            (try simp only [List.getElem_toArray]); (try simp only [List.getElem_cons_succ]); (try simp only [List.getElem_cons_zero]); (try simp only [Act.put]); (try simp only [List.setIfInBounds_toArray]); (try simp only [List.set_cons_succ]); (try simp only [List.set_cons_zero])
            refine wpAnyH_take (i := 23) (oi := _) (v := ?_) rfl (by kernel_rfl) (by kernel_rfl) (by kernel_rfl) (fun _ _ _ h => h) (Or.inl ⟨by rfl, ?_⟩) hS4 ?_
            rotate_left
            · intro W hSw
              obtain ⟨c0, c1, _, _⟩ := hSw.b.cells
              clear hSw
              go_simp
              (try with_reducible rfl)
            (try simp only [List.getElem_toArray]); (try simp only [List.getElem_cons_succ]); (try simp only [List.getElem_cons_zero]); (try simp only [Act.put]); (try simp only [List.setIfInBounds_toArray]); (try simp only [List.set_cons_succ]); (try simp only [List.set_cons_zero])
            refine wpAnyH_take (i := 24) (oi := _) (v := ?_) rfl (by kernel_rfl) (by kernel_rfl) (by kernel_rfl) (fun _ _ _ h => h) (Or.inl ⟨by rfl, ?_⟩) hS4 ?_
            rotate_left
            · intro W hSw
              obtain ⟨c0, c1, _, _⟩ := hSw.b.cells
              clear hSw
              go_simp
              (try with_reducible rfl)
            (try simp only [List.getElem_toArray]); (try simp only [List.getElem_cons_succ]); (try simp only [List.getElem_cons_zero]); (try simp only [Act.put]); (try simp only [List.setIfInBounds_toArray]); (try simp only [List.set_cons_succ]); (try simp only [List.set_cons_zero])
            refine wpAnyH_ready (rs := [25]) (by kernel_rfl) (by simp) ?_
            refine AllReadyH.cons (o := _) rfl (fun K hK => ?_) AllReadyH.nil
            go_simp
            refine (HZ3.out _ (bel0 HB.out (bel0 HBX.out hS4.below))).mono ?_
            rintro e x25 ⟨rfl, hb⟩
            refine hK.out _ _ (SB.past hS4 hb) (fun hS5 => ?_)
            clear hK K
            (try simp only [List.getElem_toArray]); (try simp only [List.getElem_cons_succ]); (try simp only [List.getElem_cons_zero]); (try simp only [Act.put]); (try simp only [List.setIfInBounds_toArray]); (try simp only [List.set_cons_succ]); (try simp only [List.set_cons_zero])
            refine wpAnyH_take (i := 26) (oi := _) (v := ?_) rfl (by kernel_rfl) (by kernel_rfl) (by kernel_rfl) (fun _ _ _ h => h) (Or.inl ⟨by rfl, ?_⟩) hS5 ?_
            rotate_left
            · intro W hSw
              obtain ⟨c0, c1, _, _⟩ := hSw.b.cells
              clear hSw
              go_simp
              (try with_reducible rfl)
            (try simp only [List.getElem_toArray]); (try simp only [List.getElem_cons_succ]); (try simp only [List.getElem_cons_zero]); (try simp only [Act.put]); (try simp only [List.setIfInBounds_toArray]); (try simp only [List.set_cons_succ]); (try simp only [List.set_cons_zero])
            refine wpAnyH_take (i := 27) (oi := _) (v := ?_) rfl (by kernel_rfl) (by kernel_rfl) (by kernel_rfl) (fun _ _ _ h => h) (Or.inl ⟨by rfl, ?_⟩) hS5 ?_
            rotate_left
            · intro W hSw
              obtain ⟨c0, c1, _, _⟩ := hSw.b.cells
              clear hSw
              go_simp
              (try with_reducible rfl)
            (try simp only [List.getElem_toArray]); (try simp only [List.getElem_cons_succ]); (try simp only [List.getElem_cons_zero]); (try simp only [Act.put]); (try simp only [List.setIfInBounds_toArray]); (try simp only [List.set_cons_succ]); (try simp only [List.set_cons_zero])
            refine wpAnyH_take (i := 28) (oi := _) (v := ?_) rfl (by kernel_rfl) (by kernel_rfl) (by kernel_rfl) (fun _ _ _ h => h) (Or.inl ⟨by rfl, ?_⟩) hS5 ?_
            rotate_left
            · intro W hSw
              obtain ⟨c0, c1, _, _⟩ := hSw.b.cells
              clear hSw
              go_simp
              (try with_reducible rfl)
            (try simp only [List.getElem_toArray]); (try simp only [List.getElem_cons_succ]); (try simp only [List.getElem_cons_zero]); (try simp only [Act.put]); (try simp only [List.setIfInBounds_toArray]); (try simp only [List.set_cons_succ]); (try simp only [List.set_cons_zero])
            refine wpAnyH_take (i := 29) (oi := _) (v := _) rfl (by kernel_rfl) (by kernel_rfl) (by kernel_rfl) (fun _ _ _ h => h) (yields_load_row (by rfl) 26 _ rfl g7 rfl 26 (sv f) (0, 0) _ (fun W h => h.b.h7) Tryd.underlying26 rfl (infoSet _)) hS5 ?_
            (try simp only [List.getElem_toArray]); (try simp only [List.getElem_cons_succ]); (try simp only [List.getElem_cons_zero]); (try simp only [Act.put]); (try simp only [List.setIfInBounds_toArray]); (try simp only [List.set_cons_succ]); (try simp only [List.set_cons_zero])
            refine wpAnyH_take (i := 30) (oi := _) (v := ?_) rfl (by kernel_rfl) (by kernel_rfl) (by kernel_rfl) (fun _ _ _ h => h) (Or.inl ⟨by rfl, ?_⟩) hS5 ?_
            rotate_left
            · intro W hSw
              obtain ⟨c0, c1, _, _⟩ := hSw.b.cells
              clear hSw
              go_simp
              (try with_reducible rfl)
            (try simp only [List.getElem_toArray]); (try simp only [List.getElem_cons_succ]); (try simp only [List.getElem_cons_zero]); (try simp only [Act.put]); (try simp only [List.setIfInBounds_toArray]); (try simp only [List.set_cons_succ]); (try simp only [List.set_cons_zero])
            refine wpAnyH_take (i := 31) (oi := _) (v := ?_) rfl (by kernel_rfl) (by kernel_rfl) (by kernel_rfl) (fun _ _ _ h => h) (Or.inl ⟨by rfl, ?_⟩) hS5 ?_
            rotate_left
            · intro W hSw
              obtain ⟨c0, c1, _, _⟩ := hSw.b.cells
              clear hSw
              go_simp
              (try with_reducible rfl)
            (try simp only [List.getElem_toArray]); (try simp only [List.getElem_cons_succ]); (try simp only [List.getElem_cons_zero]); (try simp only [Act.put]); (try simp only [List.setIfInBounds_toArray]); (try simp only [List.set_cons_succ]); (try simp only [List.set_cons_zero])
            refine wpAnyH_take (i := 32) (oi := _) (v := ?_) rfl (by kernel_rfl) (by kernel_rfl) (by kernel_rfl) (fun _ _ _ h => h) (Or.inl ⟨by rfl, ?_⟩) hS5 ?_
            rotate_left
            · intro W hSw
              obtain ⟨c0, c1, _, _⟩ := hSw.b.cells
              clear hSw
              go_simp
              (try with_reducible rfl)
            (try simp only [List.getElem_toArray]); (try simp only [List.getElem_cons_succ]); (try simp only [List.getElem_cons_zero]); (try simp only [Act.put]); (try simp only [List.setIfInBounds_toArray]); (try simp only [List.set_cons_succ]); (try simp only [List.set_cons_zero])
            refine wpAnyH_take (i := 33) (oi := _) (v := ?_) rfl (by kernel_rfl) (by kernel_rfl) (by kernel_rfl) (fun _ _ _ h => h) (Or.inl ⟨by rfl, ?_⟩) hS5 ?_
            rotate_left
            · intro W hSw
              obtain ⟨c0, c1, _, _⟩ := hSw.b.cells
              clear hSw
              go_simp
              (try with_reducible rfl)
            (try simp only [List.getElem_toArray]); (try simp only [List.getElem_cons_succ]); (try simp only [List.getElem_cons_zero]); (try simp only [Act.put]); (try simp only [List.setIfInBounds_toArray]); (try simp only [List.set_cons_succ]); (try simp only [List.set_cons_zero])
            refine wpAnyH_ready (rs := [34]) (by kernel_rfl) (by simp) ?_
            refine AllReadyH.cons (o := _) rfl (fun K hK => ?_) AllReadyH.nil
            go_simp
            refine (HIF.out _ (bel0 HB.out (bel0 HBX.out hS5.below))).mono ?_
            rintro e x34 ⟨rfl, hb⟩
            refine hK.out _ _ (SB.past hS5 hb) (fun hS6 => ?_)
            clear hK K
            (try simp only [List.getElem_toArray]); (try simp only [List.getElem_cons_succ]); (try simp only [List.getElem_cons_zero]); (try simp only [Act.put]); (try simp only [List.setIfInBounds_toArray]); (try simp only [List.set_cons_succ]); (try simp only [List.set_cons_zero])
            refine wpAnyH_take (i := 35) (oi := _) (v := ?_) rfl (by kernel_rfl) (by kernel_rfl) (by kernel_rfl) (fun _ _ _ h => h) (Or.inl ⟨by rfl, ?_⟩) hS6 ?_
            rotate_left
            · intro W hSw
              obtain ⟨c0, c1, _, _⟩ := hSw.b.cells
              clear hSw
              go_simp
              (try with_reducible rfl)
            (try simp only [List.getElem_toArray]); (try simp only [List.getElem_cons_succ]); (try simp only [List.getElem_cons_zero]); (try simp only [Act.put]); (try simp only [List.setIfInBounds_toArray]); (try simp only [List.set_cons_succ]); (try simp only [List.set_cons_zero])
            refine wpAnyH_take (i := 36) (oi := _) (v := undef) rfl (by kernel_rfl) (by kernel_rfl) (by kernel_rfl) (fun _ _ _ h => h) (Or.inr ⟨by rfl, rfl⟩) hS6 ?_
            (try simp only [List.getElem_toArray]); (try simp only [List.getElem_cons_succ]); (try simp only [List.getElem_cons_zero]); (try simp only [Act.put]); (try simp only [List.setIfInBounds_toArray]); (try simp only [List.set_cons_succ]); (try simp only [List.set_cons_zero])
            refine wpAnyH_take (i := 37) (oi := _) (v := undef) rfl (by kernel_rfl) (by kernel_rfl) (by kernel_rfl) (fun _ _ _ h => h) (Or.inr ⟨by rfl, rfl⟩) hS6 ?_
            (try simp only [List.getElem_toArray]); (try simp only [List.getElem_cons_succ]); (try simp only [List.getElem_cons_zero]); (try simp only [Act.put]); (try simp only [List.setIfInBounds_toArray]); (try simp only [List.set_cons_succ]); (try simp only [List.set_cons_zero])
            refine wpAnyH_take (i := 38) (oi := _) (v := undef) rfl (by kernel_rfl) (by kernel_rfl) (by kernel_rfl) (fun _ _ _ h => h) (Or.inr ⟨by rfl, rfl⟩) hS6 ?_
            (try simp only [List.getElem_toArray]); (try simp only [List.getElem_cons_succ]); (try simp only [List.getElem_cons_zero]); (try simp only [Act.put]); (try simp only [List.setIfInBounds_toArray]); (try simp only [List.set_cons_succ]); (try simp only [List.set_cons_zero])
            refine wpAnyH_take (i := 39) (oi := _) (v := ?_) rfl (by kernel_rfl) (by kernel_rfl) (by kernel_rfl) (fun _ _ _ h => h) (Or.inl ⟨by rfl, ?_⟩) hS6 ?_
            rotate_left
            · intro W hSw
              obtain ⟨c0, c1, _, _⟩ := hSw.b.cells
              clear hSw
              go_simp
              (try with_reducible rfl)
            (try simp only [List.getElem_toArray]); (try simp only [List.getElem_cons_succ]); (try simp only [List.getElem_cons_zero]); (try simp only [Act.put]); (try simp only [List.setIfInBounds_toArray]); (try simp only [List.set_cons_succ]); (try simp only [List.set_cons_zero])
            refine wpAnyH_take (i := 40) (oi := _) (v := ?_) rfl (by kernel_rfl) (by kernel_rfl) (by kernel_rfl) (fun _ _ _ h => h) (Or.inl ⟨by rfl, ?_⟩) hS6 ?_
            rotate_left
            · intro W hSw
              obtain ⟨c0, c1, _, _⟩ := hSw.b.cells
              clear hSw
              go_simp
              (try with_reducible rfl)
            (try simp only [List.getElem_toArray]); (try simp only [List.getElem_cons_succ]); (try simp only [List.getElem_cons_zero]); (try simp only [Act.put]); (try simp only [List.setIfInBounds_toArray]); (try simp only [List.set_cons_succ]); (try simp only [List.set_cons_zero])
            refine wpAnyH_take (i := 41) (oi := _) (v := ?_) rfl (by kernel_rfl) (by kernel_rfl) (by kernel_rfl) (fun _ _ _ h => h) (Or.inl ⟨by rfl, ?_⟩) hS6 ?_
            rotate_left
            · intro W hSw
              obtain ⟨c0, c1, _, _⟩ := hSw.b.cells
              clear hSw
              go_simp
              (try with_reducible rfl)
            (try simp only [List.getElem_toArray]); (try simp only [List.getElem_cons_succ]); (try simp only [List.getElem_cons_zero]); (try simp only [Act.put]); (try simp only [List.setIfInBounds_toArray]); (try simp only [List.set_cons_succ]); (try simp only [List.set_cons_zero])
            refine wpAnyH_done (by kernel_rfl) ?_ _
            (try simp only [Exit.then])
            go_wp2
            go_ret
            exact ⟨rfl, bel0 HB.out (bel0 HBX.out hS6.below)⟩
          | false =>
            have he3 := HE3.out rfl
            refine wp_region_held_drew (S := SB wc w.heap.size g7 g8 gb f g fb oa ob oc) (by kernel_rfl) ⟨⟨HYX.out.past (Below.refl _ _).drew, (Below.refl _ _).drew⟩, HGB.out⟩ (fun hS0 => ?_)
            refine wpAnyH_take (i := 0) (oi := _) (v := _) rfl (by kernel_rfl) (by kernel_rfl) (by kernel_rfl) (fun _ _ _ h => h) (yields_load_row (by rfl) 26 _ rfl g7 rfl 26 (sv f) (0, 0) _ (fun W h => h.b.h7) Tryd.underlying26 rfl (infoSet _)) hS0 ?_
            (try simp only [List.getElem_toArray]); (try simp only [List.getElem_cons_succ]); (try simp only [List.getElem_cons_zero]); (try simp only [Act.put]); (try simp only [List.setIfInBounds_toArray]); (try simp only [List.set_cons_succ]); (try simp only [List.set_cons_zero])
            refine wpAnyH_take (i := 1) (oi := _) (v := _) rfl (by kernel_rfl) (by kernel_rfl) (by kernel_rfl) (fun _ _ _ h => h) (yields_load_row (by rfl) 26 _ rfl g8 rfl 26 (sv g) (0, 0) _ (fun W h => h.b.h8) Tryd.underlying26 rfl (infoSet _)) hS0 ?_
            (try simp only [List.getElem_toArray]); (try simp only [List.getElem_cons_succ]); (try simp only [List.getElem_cons_zero]); (try simp only [Act.put]); (try simp only [List.setIfInBounds_toArray]); (try simp only [List.set_cons_succ]); (try simp only [List.set_cons_zero])
            refine wpAnyH_take (i := 2) (oi := _) (v := ?_) rfl (by kernel_rfl) (by kernel_rfl) (by kernel_rfl) (fun _ _ _ h => h) (Or.inl ⟨by rfl, ?_⟩) hS0 ?_
            rotate_left
            · intro W hSw
              obtain ⟨c0, c1, _, _⟩ := hSw.b.cells
              clear hSw
              go_simp
              (try with_reducible rfl)
            (try simp only [List.getElem_toArray]); (try simp only [List.getElem_cons_succ]); (try simp only [List.getElem_cons_zero]); (try simp only [Act.put]); (try simp only [List.setIfInBounds_toArray]); (try simp only [List.set_cons_succ]); (try simp only [List.set_cons_zero])
            refine wpAnyH_take (i := 3) (oi := _) (v := _) rfl (by kernel_rfl) (by kernel_rfl) (by kernel_rfl) (fun _ _ _ h => h) (yields_load_row (by rfl) 26 _ rfl g7 rfl 26 (sv f) (0, 0) _ (fun W h => h.b.h7) Tryd.underlying26 rfl (infoSet _)) hS0 ?_
            (try simp only [List.getElem_toArray]); (try simp only [List.getElem_cons_succ]); (try simp only [List.getElem_cons_zero]); (try simp only [Act.put]); (try simp only [List.setIfInBounds_toArray]); (try simp only [List.set_cons_succ]); (try simp only [List.set_cons_zero])
            refine wpAnyH_take (i := 5) (oi := _) (v := _) rfl (by kernel_rfl) (by kernel_rfl) (by kernel_rfl) (fun _ _ _ h => h) (yields_load_row (by rfl) 26 _ rfl g8 rfl 26 (sv g) (0, 0) _ (fun W h => h.b.h8) Tryd.underlying26 rfl (infoSet _)) hS0 ?_
            (try simp only [List.getElem_toArray]); (try simp only [List.getElem_cons_succ]); (try simp only [List.getElem_cons_zero]); (try simp only [Act.put]); (try simp only [List.setIfInBounds_toArray]); (try simp only [List.set_cons_succ]); (try simp only [List.set_cons_zero])
            refine wpAnyH_ready (rs := [4]) (by kernel_rfl) (by simp) ?_
            refine AllReadyH.cons (o := _) rfl (fun K hK => ?_) AllReadyH.nil
            go_simp
            refine (HL1.out _ (bel0 HB.out (bel0 HBX.out hS0.below))).mono ?_
            rintro e x4 ⟨v1, rfl, ho, hb⟩
            obtain ⟨A1, c1, hf1, _⟩ := own_form ho
            subst hf1
            have HR1 := RT.of_own ho
            clear ho
            refine hK.out _ _ (SB.past hS0 hb) (fun hS1 => ?_)
            clear hK K
            (try simp only [List.getElem_toArray]); (try simp only [List.getElem_cons_succ]); (try simp only [List.getElem_cons_zero]); (try simp only [Act.put]); (try simp only [List.setIfInBounds_toArray]); (try simp only [List.set_cons_succ]); (try simp only [List.set_cons_zero])
            refine wpAnyH_ready (rs := [6]) (by kernel_rfl) (by simp) ?_
            refine AllReadyH.cons (o := _) rfl (fun K hK => ?_) AllReadyH.nil
            go_simp
            refine (HL2.out _ (bel0 HB.out (bel0 HBX.out hS1.below))).mono ?_
            rintro e x6 ⟨v2, rfl, ho, hb⟩
            obtain ⟨A2, c2, hf2, _⟩ := own_form ho
            subst hf2
            have HR2 := RT.of_own ho
            replace HR1 := (HR1.below hb).more hb.size
            clear ho
            refine hK.out _ _ (SB.past hS1 hb) (fun hS2 => ?_)
            clear hK K
            (try simp only [List.getElem_toArray]); (try simp only [List.getElem_cons_succ]); (try simp only [List.getElem_cons_zero]); (try simp only [Act.put]); (try simp only [List.setIfInBounds_toArray]); (try simp only [List.set_cons_succ]); (try simp only [List.set_cons_zero])
            refine wpAnyH_ready (rs := [7]) (by kernel_rfl) (by simp) ?_
            refine AllReadyH.cons (o := _) rfl (fun K hK => ?_) AllReadyH.nil
            go_simp
            refine (HSM.out _ _ _ _ _ HR1 HR2).mono ?_
            rintro e x7 ⟨rfl, hb⟩
            clear HR1 HR2
            refine hK.out _ _ (SB.past hS2 hb) (fun hS3 => ?_)
            clear hK K
            (try simp only [List.getElem_toArray]); (try simp only [List.getElem_cons_succ]); (try simp only [List.getElem_cons_zero]); (try simp only [Act.put]); (try simp only [List.setIfInBounds_toArray]); (try simp only [List.set_cons_succ]); (try simp only [List.set_cons_zero])
            refine wpAnyH_take (i := 8) (oi := _) (v := ?_) rfl (by kernel_rfl) (by kernel_rfl) (by kernel_rfl) (fun _ _ _ h => h) (Or.inl ⟨by rfl, ?_⟩) hS3 ?_
            rotate_left
            · intro W hSw
              obtain ⟨c0, c1, _, _⟩ := hSw.b.cells
              clear hSw
              go_simp
              (try with_reducible rfl)
            (try simp only [List.getElem_toArray]); (try simp only [List.getElem_cons_succ]); (try simp only [List.getElem_cons_zero]); (try simp only [Act.put]); (try simp only [List.setIfInBounds_toArray]); (try simp only [List.set_cons_succ]); (try simp only [List.set_cons_zero])
            refine wpAnyH_take (i := 9) (oi := _) (v := ?_) rfl (by kernel_rfl) (by kernel_rfl) (by kernel_rfl) (fun _ _ _ h => h) (Or.inl ⟨by rfl, ?_⟩) hS3 ?_
            rotate_left
            · intro W hSw
              obtain ⟨c0, c1, _, _⟩ := hSw.b.cells
              clear hSw
              go_simp
              (try with_reducible rfl)
            (try simp only [List.getElem_toArray]); (try simp only [List.getElem_cons_succ]); (try simp only [List.getElem_cons_zero]); (try simp only [Act.put]); (try simp only [List.setIfInBounds_toArray]); (try simp only [List.set_cons_succ]); (try simp only [List.set_cons_zero])
            refine wpAnyH_take (i := 10) (oi := _) (v := _) rfl (by kernel_rfl) (by kernel_rfl) (by kernel_rfl) (fun _ _ _ h => h) (yields_load_row (by rfl) 26 _ rfl gb rfl 26 (sv fb) (0, 0) _ (fun W h => h.back) Tryd.underlying26 rfl (infoSet _)) hS3 ?_
            (try simp only [List.getElem_toArray]); (try simp only [List.getElem_cons_succ]); (try simp only [List.getElem_cons_zero]); (try simp only [Act.put]); (try simp only [List.setIfInBounds_toArray]); (try simp only [List.set_cons_succ]); (try simp only [List.set_cons_zero])
            refine wpAnyH_take (i := 11) (oi := _) (v := ?_) rfl (by kernel_rfl) (by kernel_rfl) (by kernel_rfl) (fun _ _ _ h => h) (Or.inl ⟨by rfl, ?_⟩) hS3 ?_
            rotate_left
            · intro W hSw
              obtain ⟨c0, c1, _, _⟩ := hSw.b.cells
              clear hSw
              go_simp
              (try with_reducible rfl)
            (try simp only [List.getElem_toArray]); (try simp only [List.getElem_cons_succ]); (try simp only [List.getElem_cons_zero]); (try simp only [Act.put]); (try simp only [List.setIfInBounds_toArray]); (try simp only [List.set_cons_succ]); (try simp only [List.set_cons_zero])
            refine wpAnyH_take (i := 12) (oi := _) (v := ?_) rfl (by kernel_rfl) (by kernel_rfl) (by kernel_rfl) (fun _ _ _ h => h) (Or.inl ⟨by rfl, ?_⟩) hS3 ?_
            rotate_left
            · intro W hSw
              obtain ⟨c0, c1, _, _⟩ := hSw.b.cells
              clear hSw
              go_simp
              (try with_reducible rfl)
            (try simp only [List.getElem_toArray]); (try simp only [List.getElem_cons_succ]); (try simp only [List.getElem_cons_zero]); (try simp only [Act.put]); (try simp only [List.setIfInBounds_toArray]); (try simp only [List.set_cons_succ]); (try simp only [List.set_cons_zero])
            refine wpAnyH_take (i := 13) (oi := _) (v := ?_) rfl (by kernel_rfl) (by kernel_rfl) (by kernel_rfl) (fun _ _ _ h => h) (Or.inl ⟨by rfl, ?_⟩) hS3 ?_
            rotate_left
            · intro W hSw
              obtain ⟨c0, c1, _, _⟩ := hSw.b.cells
              clear hSw
              go_simp
              (try with_reducible rfl)
            (try simp only [List.getElem_toArray]); (try simp only [List.getElem_cons_succ]); (try simp only [List.getElem_cons_zero]); (try simp only [Act.put]); (try simp only [List.setIfInBounds_toArray]); (try simp only [List.set_cons_succ]); (try simp only [List.set_cons_zero])
            refine wpAnyH_take (i := 14) (oi := _) (v := ?_) rfl (by kernel_rfl) (by kernel_rfl) (by kernel_rfl) (fun _ _ _ h => h) (Or.inl ⟨by rfl, ?_⟩) hS3 ?_
            rotate_left
            · intro W hSw
              obtain ⟨c0, c1, _, _⟩ := hSw.b.cells
              clear hSw
              go_simp
              (try with_reducible rfl)
            (try simp only [List.getElem_toArray]); (try simp only [List.getElem_cons_succ]); (try simp only [List.getElem_cons_zero]); (try simp only [Act.put]); (try simp only [List.setIfInBounds_toArray]); (try simp only [List.set_cons_succ]); (try simp only [List.set_cons_zero])
            refine wpAnyH_ready (rs := [15]) (by kernel_rfl) (by simp) ?_
            refine AllReadyH.cons (o := _) rfl (fun K hK => ?_) AllReadyH.nil
            go_simp
            refine (HIB.out _ (bel0 HB.out (bel0 HBX.out hS3.below))).mono ?_
            rintro e x15 ⟨rfl, hb⟩
            refine hK.out _ _ (SB.past hS3 hb) (fun hS4 => ?_)
            clear hK K
            (try simp only [List.getElem_toArray]); (try simp only [List.getElem_cons_succ]); (try simp only [List.getElem_cons_zero]); (try simp only [Act.put]); (try simp only [List.setIfInBounds_toArray]); (try simp only [List.set_cons_succ]); (try simp only [List.set_cons_zero])
            refine wpAnyH_take (i := 16) (oi := _) (v := ?_) rfl (by kernel_rfl) (by kernel_rfl) (by kernel_rfl) (fun _ _ _ h => h) (Or.inl ⟨by rfl, ?_⟩) hS4 ?_
            rotate_left
            · intro W hSw
              obtain ⟨c0, c1, _, _⟩ := hSw.b.cells
              clear hSw
              go_simp
              (try with_reducible rfl)
            (try simp only [List.getElem_toArray]); (try simp only [List.getElem_cons_succ]); (try simp only [List.getElem_cons_zero]); (try simp only [Act.put]); (try simp only [List.setIfInBounds_toArray]); (try simp only [List.set_cons_succ]); (try simp only [List.set_cons_zero])
            refine wpAnyH_take (i := 17) (oi := _) (v := ?_) rfl (by kernel_rfl) (by kernel_rfl) (by kernel_rfl) (fun _ _ _ h => h) (Or.inl ⟨by rfl, ?_⟩) hS4 ?_
            rotate_left
            · intro W hSw
              obtain ⟨c0, c1, _, _⟩ := hSw.b.cells
              clear hSw
              go_simp
              (try with_reducible rfl)
            (try simp only [List.getElem_toArray]); (try simp only [List.getElem_cons_succ]); (try simp only [List.getElem_cons_zero]); (try simp only [Act.put]); (try simp only [List.setIfInBounds_toArray]); (try simp only [List.set_cons_succ]); (try simp only [List.set_cons_zero])
            refine wpAnyH_take (i := 18) (oi := _) (v := ?_) rfl (by kernel_rfl) (by kernel_rfl) (by kernel_rfl) (fun _ _ _ h => h) (Or.inl ⟨by rfl, ?_⟩) hS4 ?_
            rotate_left
            · intro W hSw
              obtain ⟨c0, c1, _, _⟩ := hSw.b.cells
              clear hSw
              go_simp
              (try with_reducible rfl)
            (try simp only [List.getElem_toArray]); (try simp only [List.getElem_cons_succ]); (try simp only [List.getElem_cons_zero]); (try simp only [Act.put]); (try simp only [List.setIfInBounds_toArray]); (try simp only [List.set_cons_succ]); (try simp only [List.set_cons_zero])
            refine wpAnyH_take (i := 19) (oi := _) (v := _) rfl (by kernel_rfl) (by kernel_rfl) (by kernel_rfl) (fun _ _ _ h => h) (yields_load_row (by rfl) 26 _ rfl gb rfl 26 (sv fb) (0, 0) _ (fun W h => h.back) Tryd.underlying26 rfl (infoSet _)) hS4 ?_
            (try simp only [List.getElem_toArray]); (try simp only [List.getElem_cons_succ]); (try simp only [List.getElem_cons_zero]); (try simp only [Act.put]); (try simp only [List.setIfInBounds_toArray]); (try simp only [List.set_cons_succ]); (try simp only [List.set_cons_zero])
            refine wpAnyH_take (i := 20) (oi := _) (v := _) rfl (by kernel_rfl) (by kernel_rfl) (by kernel_rfl) (fun _ _ _ h => h) (yields_load_row (by rfl) 26 _ rfl g7 rfl 26 (sv f) (0, 0) _ (fun W h => h.b.h7) Tryd.underlying26 rfl (infoSet _)) hS4 ?_
            (try simp only [List.getElem_toArray]); (try simp only [List.getElem_cons_succ]); (try simp only [List.getElem_cons_zero]); (try simp only [Act.put]); (try simp only [List.setIfInBounds_toArray]); (try simp only [List.set_cons_succ]); (try simp only [List.set_cons_zero])
            refine wpAnyH_take (i := 21) (oi := _) (v := ?_) rfl (by kernel_rfl) (by kernel_rfl) (by kernel_rfl) (fun _ _ _ h => h) (Or.inl ⟨by rfl, ?_⟩) hS4 ?_
            rotate_left
            · intro W hSw
              obtain ⟨c0, c1, _, _⟩ := hSw.b.cells
              clear hSw
              go_simp
              (try with_reducible rfl)
            (try simp only [List.getElem_toArray]); (try simp only [List.getElem_cons_succ]); (try simp only [List.getElem_cons_zero]); (try simp only [Act.put]); (try simp only [List.setIfInBounds_toArray]); (try simp only [List.set_cons_succ]); (try simp only [List.set_cons_zero])
            refine wpAnyH_take (i := 22) (oi := _) (v := ?_) rfl (by kernel_rfl) (by kernel_rfl) (by kernel_rfl) (fun _ _ _ h => h) (Or.inl ⟨by rfl, ?_⟩) hS4 ?_
            rotate_left
            · intro W hSw
              obtain ⟨c0, c1, _, _⟩ := hSw.b.cells
              clear hSw
              go_simp
              (try with_reducible rfl)
            (try simp only [List.getElem_toArray]); (try simp only [List.getElem_cons_succ]); (try simp only [List.getElem_cons_zero]); (try simp only [Act.put]); (try simp only [List.setIfInBounds_toArray]); (try simp only [List.set_cons_succ]); (try simp only [List.set_cons_zero])
            refine wpAnyH_take (i := 23) (oi := _) (v := ?_) rfl (by kernel_rfl) (by kernel_rfl) (by kernel_rfl) (fun _ _ _ h => h) (Or.inl ⟨by rfl, ?_⟩) hS4 ?_
            rotate_left
            · intro W hSw
              obtain ⟨c0, c1, _, _⟩ := hSw.b.cells
              clear hSw
              go_simp
              (try with_reducible rfl)
            (try simp only [List.getElem_toArray]); (try simp only [List.getElem_cons_succ]); (try simp only [List.getElem_cons_zero]); (try simp only [Act.put]); (try simp only [List.setIfInBounds_toArray]); (try simp only [List.set_cons_succ]); (try simp only [List.set_cons_zero])
            refine wpAnyH_take (i := 24) (oi := _) (v := ?_) rfl (by kernel_rfl) (by kernel_rfl) (by kernel_rfl) (fun _ _ _ h => h) (Or.inl ⟨by rfl, ?_⟩) hS4 ?_
            rotate_left
            · intro W hSw
              obtain ⟨c0, c1, _, _⟩ := hSw.b.cells
              clear hSw
              go_simp
              (try with_reducible rfl)
            (try simp only [List.getElem_toArray]); (try simp only [List.getElem_cons_succ]); (try simp only [List.getElem_cons_zero]); (try simp only [Act.put]); (try simp only [List.setIfInBounds_toArray]); (try simp only [List.set_cons_succ]); (try simp only [List.set_cons_zero])
            refine wpAnyH_ready (rs := [25]) (by kernel_rfl) (by simp) ?_
            refine AllReadyH.cons (o := _) rfl (fun K hK => ?_) AllReadyH.nil
            go_simp
            refine (HZ3.out _ (bel0 HB.out (bel0 HBX.out hS4.below))).mono ?_
            rintro e x25 ⟨rfl, hb⟩
            refine hK.out _ _ (SB.past hS4 hb) (fun hS5 => ?_)
            clear hK K
            (try simp only [List.getElem_toArray]); (try simp only [List.getElem_cons_succ]); (try simp only [List.getElem_cons_zero]); (try simp only [Act.put]); (try simp only [List.setIfInBounds_toArray]); (try simp only [List.set_cons_succ]); (try simp only [List.set_cons_zero])
            refine wpAnyH_take (i := 26) (oi := _) (v := ?_) rfl (by kernel_rfl) (by kernel_rfl) (by kernel_rfl) (fun _ _ _ h => h) (Or.inl ⟨by rfl, ?_⟩) hS5 ?_
            rotate_left
            · intro W hSw
              obtain ⟨c0, c1, _, _⟩ := hSw.b.cells
              clear hSw
              go_simp
              (try with_reducible rfl)
            (try simp only [List.getElem_toArray]); (try simp only [List.getElem_cons_succ]); (try simp only [List.getElem_cons_zero]); (try simp only [Act.put]); (try simp only [List.setIfInBounds_toArray]); (try simp only [List.set_cons_succ]); (try simp only [List.set_cons_zero])
            refine wpAnyH_take (i := 27) (oi := _) (v := ?_) rfl (by kernel_rfl) (by kernel_rfl) (by kernel_rfl) (fun _ _ _ h => h) (Or.inl ⟨by rfl, ?_⟩) hS5 ?_
            rotate_left
            · intro W hSw
              obtain ⟨c0, c1, _, _⟩ := hSw.b.cells
              clear hSw
              go_simp
              (try with_reducible rfl)
            (try simp only [List.getElem_toArray]); (try simp only [List.getElem_cons_succ]); (try simp only [List.getElem_cons_zero]); (try simp only [Act.put]); (try simp only [List.setIfInBounds_toArray]); (try simp only [List.set_cons_succ]); (try simp only [List.set_cons_zero])
            refine wpAnyH_take (i := 28) (oi := _) (v := ?_) rfl (by kernel_rfl) (by kernel_rfl) (by kernel_rfl) (fun _ _ _ h => h) (Or.inl ⟨by rfl, ?_⟩) hS5 ?_
            rotate_left
            · intro W hSw
              obtain ⟨c0, c1, _, _⟩ := hSw.b.cells
              clear hSw
              go_simp
              (try with_reducible rfl)
            (try simp only [List.getElem_toArray]); (try simp only [List.getElem_cons_succ]); (try simp only [List.getElem_cons_zero]); (try simp only [Act.put]); (try simp only [List.setIfInBounds_toArray]); (try simp only [List.set_cons_succ]); (try simp only [List.set_cons_zero])
            refine wpAnyH_take (i := 29) (oi := _) (v := _) rfl (by kernel_rfl) (by kernel_rfl) (by kernel_rfl) (fun _ _ _ h => h) (yields_load_row (by rfl) 26 _ rfl g7 rfl 26 (sv f) (0, 0) _ (fun W h => h.b.h7) Tryd.underlying26 rfl (infoSet _)) hS5 ?_
            (try simp only [List.getElem_toArray]); (try simp only [List.getElem_cons_succ]); (try simp only [List.getElem_cons_zero]); (try simp only [Act.put]); (try simp only [List.setIfInBounds_toArray]); (try simp only [List.set_cons_succ]); (try simp only [List.set_cons_zero])
            refine wpAnyH_take (i := 30) (oi := _) (v := ?_) rfl (by kernel_rfl) (by kernel_rfl) (by kernel_rfl) (fun _ _ _ h => h) (Or.inl ⟨by rfl, ?_⟩) hS5 ?_
            rotate_left
            · intro W hSw
              obtain ⟨c0, c1, _, _⟩ := hSw.b.cells
              clear hSw
              go_simp
              (try with_reducible rfl)
            (try simp only [List.getElem_toArray]); (try simp only [List.getElem_cons_succ]); (try simp only [List.getElem_cons_zero]); (try simp only [Act.put]); (try simp only [List.setIfInBounds_toArray]); (try simp only [List.set_cons_succ]); (try simp only [List.set_cons_zero])
            refine wpAnyH_take (i := 31) (oi := _) (v := ?_) rfl (by kernel_rfl) (by kernel_rfl) (by kernel_rfl) (fun _ _ _ h => h) (Or.inl ⟨by rfl, ?_⟩) hS5 ?_
            rotate_left
            · intro W hSw
              obtain ⟨c0, c1, _, _⟩ := hSw.b.cells
              clear hSw
              go_simp
              (try with_reducible rfl)
            (try simp only [List.getElem_toArray]); (try simp only [List.getElem_cons_succ]); (try simp only [List.getElem_cons_zero]); (try simp only [Act.put]); (try simp only [List.setIfInBounds_toArray]); (try simp only [List.set_cons_succ]); (try simp only [List.set_cons_zero])
            refine wpAnyH_take (i := 32) (oi := _) (v := ?_) rfl (by kernel_rfl) (by kernel_rfl) (by kernel_rfl) (fun _ _ _ h => h) (Or.inl ⟨by rfl, ?_⟩) hS5 ?_
            rotate_left
            · intro W hSw
              obtain ⟨c0, c1, _, _⟩ := hSw.b.cells
              clear hSw
              go_simp
              (try with_reducible rfl)
            (try simp only [List.getElem_toArray]); (try simp only [List.getElem_cons_succ]); (try simp only [List.getElem_cons_zero]); (try simp only [Act.put]); (try simp only [List.setIfInBounds_toArray]); (try simp only [List.set_cons_succ]); (try simp only [List.set_cons_zero])
            refine wpAnyH_take (i := 33) (oi := _) (v := ?_) rfl (by kernel_rfl) (by kernel_rfl) (by kernel_rfl) (fun _ _ _ h => h) (Or.inl ⟨by rfl, ?_⟩) hS5 ?_
            rotate_left
            · intro W hSw
              obtain ⟨c0, c1, _, _⟩ := hSw.b.cells
              clear hSw
              go_simp
              (try with_reducible rfl)
            (try simp only [List.getElem_toArray]); (try simp only [List.getElem_cons_succ]); (try simp only [List.getElem_cons_zero]); (try simp only [Act.put]); (try simp only [List.setIfInBounds_toArray]); (try simp only [List.set_cons_succ]); (try simp only [List.set_cons_zero])
            refine wpAnyH_ready (rs := [34]) (by kernel_rfl) (by simp) ?_
            refine AllReadyH.cons (o := _) rfl (fun K hK => ?_) AllReadyH.nil
            go_simp
            refine (HIF.out _ (bel0 HB.out (bel0 HBX.out hS5.below))).mono ?_
            rintro e x34 ⟨rfl, hb⟩
            refine hK.out _ _ (SB.past hS5 hb) (fun hS6 => ?_)
            clear hK K
            (try simp only [List.getElem_toArray]); (try simp only [List.getElem_cons_succ]); (try simp only [List.getElem_cons_zero]); (try simp only [Act.put]); (try simp only [List.setIfInBounds_toArray]); (try simp only [List.set_cons_succ]); (try simp only [List.set_cons_zero])
            refine wpAnyH_take (i := 35) (oi := _) (v := ?_) rfl (by kernel_rfl) (by kernel_rfl) (by kernel_rfl) (fun _ _ _ h => h) (Or.inl ⟨by rfl, ?_⟩) hS6 ?_
            rotate_left
            · intro W hSw
              obtain ⟨c0, c1, _, _⟩ := hSw.b.cells
              clear hSw
              go_simp
              (try with_reducible rfl)
            (try simp only [List.getElem_toArray]); (try simp only [List.getElem_cons_succ]); (try simp only [List.getElem_cons_zero]); (try simp only [Act.put]); (try simp only [List.setIfInBounds_toArray]); (try simp only [List.set_cons_succ]); (try simp only [List.set_cons_zero])
            refine wpAnyH_take (i := 36) (oi := _) (v := _) rfl (by kernel_rfl) (by kernel_rfl) (by kernel_rfl) (fun _ _ _ h => h) (yields_load_row (by rfl) 26 _ rfl gb rfl 26 (sv fb) (0, 0) _ (fun W h => h.back) Tryd.underlying26 rfl (infoSet _)) hS6 ?_
            (try simp only [List.getElem_toArray]); (try simp only [List.getElem_cons_succ]); (try simp only [List.getElem_cons_zero]); (try simp only [Act.put]); (try simp only [List.setIfInBounds_toArray]); (try simp only [List.set_cons_succ]); (try simp only [List.set_cons_zero])
            refine wpAnyH_take (i := 37) (oi := _) (v := _) rfl (by kernel_rfl) (by kernel_rfl) (by kernel_rfl) (fun _ _ _ h => h) (yields_load_row (by rfl) 26 _ rfl g7 rfl 26 (sv f) (0, 0) _ (fun W h => h.b.h7) Tryd.underlying26 rfl (infoSet _)) hS6 ?_
            (try simp only [List.getElem_toArray]); (try simp only [List.getElem_cons_succ]); (try simp only [List.getElem_cons_zero]); (try simp only [Act.put]); (try simp only [List.setIfInBounds_toArray]); (try simp only [List.set_cons_succ]); (try simp only [List.set_cons_zero])
            refine wpAnyH_take (i := 38) (oi := _) (v := ?_) rfl (by kernel_rfl) (by kernel_rfl) (by kernel_rfl) (fun _ _ _ h => h) (Or.inl ⟨by rfl, ?_⟩) hS6 ?_
            rotate_left
            · intro W hSw
              obtain ⟨c0, c1, _, _⟩ := hSw.b.cells
              clear hSw
              go_simp
              (try with_reducible rfl)
            (try simp only [List.getElem_toArray]); (try simp only [List.getElem_cons_succ]); (try simp only [List.getElem_cons_zero]); (try simp only [Act.put]); (try simp only [List.setIfInBounds_toArray]); (try simp only [List.set_cons_succ]); (try simp only [List.set_cons_zero])
            refine wpAnyH_take (i := 39) (oi := _) (v := ?_) rfl (by kernel_rfl) (by kernel_rfl) (by kernel_rfl) (fun _ _ _ h => h) (Or.inl ⟨by rfl, ?_⟩) hS6 ?_
            rotate_left
            · intro W hSw
              obtain ⟨c0, c1, _, _⟩ := hSw.b.cells
              clear hSw
              go_simp
              (try with_reducible rfl)
            (try simp only [List.getElem_toArray]); (try simp only [List.getElem_cons_succ]); (try simp only [List.getElem_cons_zero]); (try simp only [Act.put]); (try simp only [List.setIfInBounds_toArray]); (try simp only [List.set_cons_succ]); (try simp only [List.set_cons_zero])
            refine wpAnyH_take (i := 40) (oi := _) (v := ?_) rfl (by kernel_rfl) (by kernel_rfl) (by kernel_rfl) (fun _ _ _ h => h) (Or.inl ⟨by rfl, ?_⟩) hS6 ?_
            rotate_left
            · intro W hSw
              obtain ⟨c0, c1, _, _⟩ := hSw.b.cells
              clear hSw
              go_simp
              (try with_reducible rfl)
            (try simp only [List.getElem_toArray]); (try simp only [List.getElem_cons_succ]); (try simp only [List.getElem_cons_zero]); (try simp only [Act.put]); (try simp only [List.setIfInBounds_toArray]); (try simp only [List.set_cons_succ]); (try simp only [List.set_cons_zero])
            refine wpAnyH_take (i := 41) (oi := _) (v := ?_) rfl (by kernel_rfl) (by kernel_rfl) (by kernel_rfl) (fun _ _ _ h => h) (Or.inl ⟨by rfl, ?_⟩) hS6 ?_
            rotate_left
            · intro W hSw
              obtain ⟨c0, c1, _, _⟩ := hSw.b.cells
              clear hSw
              go_simp
              (try with_reducible rfl)
            (try simp only [List.getElem_toArray]); (try simp only [List.getElem_cons_succ]); (try simp only [List.getElem_cons_zero]); (try simp only [Act.put]); (try simp only [List.setIfInBounds_toArray]); (try simp only [List.set_cons_succ]); (try simp only [List.set_cons_zero])
            refine wpAnyH_done (by kernel_rfl) ?_ _
            (try simp only [Exit.then])
            go_wp2
            go_ret
            exact ⟨rfl, bel0 HB.out (bel0 HBX.out hS6.below)⟩
end Go.Proofs.YtolhdmlphmnpbaaDoor
