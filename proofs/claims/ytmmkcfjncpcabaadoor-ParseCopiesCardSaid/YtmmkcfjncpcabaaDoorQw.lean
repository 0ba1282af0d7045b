/- What the listed variables, and the world's shape, give parse's laws (Ul's text, and Pl's wrap). -/
import Derived.Test.YtmmkcfjncpcabaaDoorRows
import Derived.Test.YtmmkcfjncpcabaaDoorQx
import Derived.ProofKit
import Derived.LaidMore
import Derived.OpenShut
import Derived.Stop.Joined
import Derived.PinnedBridge
import Derived.Lib.LaidU8
import Derived.HandedShaped
import Derived.Shelf.Vars
import Derived.Deep.Matrix
import Derived.Test.YtmmkcfjncpcabaaDoorQk
namespace Go.Proofs.YtmmkcfjncpcabaaDoor
open Go.ChangeShapes Go.WideShapes Go.ChangeAt Go.WideMaps Go.WideElems Go.RowKit

theorem own : ownKnob Tryd.prog.godebug = none := by kernel_rfl
theorem laidOut : laidOutB Tryd.prog = true := by kernel_rfl
theorem c5 : Tryd.prog.cellsOf 5 = 1 := by kernel_rfl
theorem c256 : Tryd.prog.cellsOf 110 = 256 := by kernel_rfl
theorem cPair : Tryd.prog.cellsOf 112 = 2 := by kernel_rfl
theorem gFirst : Tryd.prog.globalNamed "unicode/utf8.first" = some 0 := by kernel_rfl
theorem gAccept : Tryd.prog.globalNamed "unicode/utf8.acceptRanges" = some 1 := by kernel_rfl
theorem tFirst : (Tryd.prog.globals[0]?).map (·.type) = some 110 := by kernel_rfl
theorem tAccept : (Tryd.prog.globals[1]?).map (·.type) = some 113 := by kernel_rfl
def laidU : List (String × DataW Unit) := [("unicode/utf8.acceptRanges", Rows.laid_unicode_utf8_acceptRanges), ("unicode/utf8.first", Rows.laid_unicode_utf8_first)]
theorem firstD : Rows.laid_unicode_utf8_first = Lib.firstData := Pinned.utf8First_eq
theorem acceptD : (Rows.laid_unicode_utf8_acceptRanges : DataW Unit) = Lib.acceptData := by kernel_rfl
theorem ut_size {W : World} (h : UT W) : max 0 1 + 1 ≤ W.heap.size := by have h1 := h.2.1; have h2 := h.2.2; omega
theorem var_lt {P : Program} {w : World} {n : String} {g : Nat} {cs : Array Value} (hg : P.globalNamed n = some g) (h : w.var? P n = some cs) : g < w.heap.size := by
  simp only [World.var?, hg, Option.bind_some] at h
  rcases Nat.lt_or_ge g w.heap.size with hl | hl
  · exact hl
  · rw [Array.getElem?_eq_none hl] at h
    simp at h

/-- WHAT THE CONDITION GIVES THE WALKS. -/
theorem ut_of_laid {W : World} (h : laidMetH Tryd.prog laidU W) : UT W := by
  rw [MakeChecks.laidMetH_plain _ _ _ (by kernel_rfl)] at h
  obtain ⟨ps, ⟨g0, t0, cs0, f0, p0, q0, hg0, ht0, hv0, hd0, ⟨g1, t1, cs1, f1, p1, q1, hg1, ht1, hv1, hd1, _, _⟩, _⟩, _, _⟩ := h
  obtain rfl := Option.some.inj (gAccept.symm.trans hg0)
  obtain rfl := Option.some.inj (gFirst.symm.trans hg1)
  obtain rfl := Option.some.inj (tAccept.symm.trans ht0)
  obtain rfl := Option.some.inj (tFirst.symm.trans ht1)
  rw [acceptD] at hd0
  rw [firstD] at hd1
  refine ⟨⟨fun c hc => ?_, fun i hi => ?_⟩, var_lt hg1 hv1, var_lt hg0 hv0⟩
  · have hcs := Lib.cells_of_tab Tryd.underlying110 Tryd.underlying5 c5 c256 hd1
    rw [World.var?_cell hg1 hv1 c, ← Array.getElem?_toList, hcs]
    simp [Lib.firstTab, hc]
  · obtain ⟨fuel', d, q, hdi, he⟩ := Lib.array_elem Tryd.underlying113 hd0 i hi
    simp only [List.getElem?_map, List.getElem?_range hi, Option.map_some, Option.some.injEq] at hdi
    subst hdi
    rw [cPair] at he
    have hcs := Lib.ints_of_struct Tryd.underlying112 (fun j f hj => by
      match j, hj with
      | 0, hj => simp at hj; subst hj; exact ⟨Tryd.underlying5, rfl, c5⟩
      | 1, hj => simp at hj; subst hj; exact ⟨Tryd.underlying5, rfl, c5⟩
      | j + 2, hj => simp at hj) (by rw [cPair]; rfl) he
    have e0 := congrArg (·[0]?) hcs
    have e1 := congrArg (·[1]?) hcs
    simp only [List.getElem?_take, List.getElem?_drop] at e0 e1
    constructor
    · rw [World.var?_cell hg0 hv0 (2 * i), ← Array.getElem?_toList]
      simpa [Nat.mul_comm] using e0
    · rw [World.var?_cell hg0 hv0 (2 * i + 1), ← Array.getElem?_toList]
      simpa [Nat.mul_comm] using e1

/-- A start that fits: the door's own heap, and the pinned table in its place. -/
theorem startU_met (os : Os) (args : Array Value) : laidMetH Tryd.prog laidU (((World.doorLaid Tryd.prog 400 os).setRow 0 ((List.range 256).map fun i => Value.int .u8 (Lib.firstT i : Nat)).toArray).forCall (fun _ _ => 0) ⟨#[], args, []⟩).memory :=
  laidMetH_of_parts3 (fuel := 8) (laidMet_of_run' 8 (by kernel_rfl) (by kernel_rfl)) (by kernel_rfl) (by kernel_rfl)

theorem lt_of_cell {w : World} {b o : Nat} {v : Value} (h : w.cell? ⟨b, o, none⟩ = some v) : b < w.heap.size := by
  rcases Nat.lt_or_ge b w.heap.size with hl | hl
  · exact hl
  · simp [World.cell?, Array.getElem?_eq_none hl] at h
/-- A slice of bytes that came in. -/
theorem open_bytes {H : Type} {enc : TypeId × Value → H} {W : World} {A : Option Addr} {n c : Nat} {d : DataW H} {p : List MemPlace} (h : DataW.Trod enc Tryd.prog W 0 (fun _ => true) true 22 (.slice A n c) d p) :
    ∃ xs : List Nat, n = xs.length ∧ n ≤ c ∧ c ≤ 9223372036854775807 ∧ BS W W.heap.size A xs := by
  obtain ⟨fuel, hf⟩ := h
  rcases open_ints Tryd.underlying22 Tryd.underlying5 c5 hf with ⟨hcs, _⟩ | ⟨a, len, cap, zs, hcs, _, hl, hm, hz, _, hcell, hw⟩
  · have e : Value.slice A n c = .slice none 0 0 := by simpa [Value.cells] using hcs
    injection e with e1 e2 e3
    subst e1; subst e2; subst e3
    exact ⟨[], rfl, Nat.le_refl _, by omega, by simp, fun h => absurd rfl h⟩
  · have e : Value.slice A n c = .slice (some a) len cap := by simpa [Value.cells] using hcs
    injection e with e1 e2 e3
    subst e1; subst e2; subst e3
    have hzl : zs.length = c := by simpa using hz
    have hb : ∀ z ∈ zs, 0 ≤ z ∧ z < 256 := fun z hz => by have := bounds_u8 (hw z hz); omega
    refine ⟨(zs.take n).map Int.toNat, by simp; omega, hl, by unfold maxLen at hm; omega, fun x hx => ?_, fun hne => ?_⟩
    · obtain ⟨z, hz', rfl⟩ := List.mem_map.1 hx
      have := hb z (List.mem_of_mem_take hz')
      omega
    · have hpos : 0 < zs.length := by
        rcases Nat.eq_zero_or_pos zs.length with h0 | h0
        · rw [List.eq_nil_of_length_eq_zero h0] at hne; simp at hne
        · exact h0
      obtain ⟨b, off, rfl, hc⟩ := ints_at hcell hpos
      refine ⟨b, off, rfl, lt_of_cell (hc 0 hpos), fun k hk => ?_⟩
      have hk' : k < n ∧ k < zs.length := by simp at hk; omega
      have hz' := hb zs[k] (List.getElem_mem hk'.2)
      rw [hc k (by omega), List.getElem?_map, List.getElem?_take, if_pos hk'.1, List.getElem?_eq_getElem hk'.2]
      simp only [Option.map_some, Option.getD_some]
      rw [Int.toNat_of_nonneg hz'.1, List.getD_eq_getElem?_getD, List.getElem?_eq_getElem hk'.2]
      rfl

theorem ml_of_shape {W : World} (h : W.ShapedOpen Tryd.prog) : ML W :=
  cell_of_shapedOpen_int (t := 3) (zero := #[.int .i64 0]) h (of_decide_eq_true (by kernel_rfl)) (by kernel_rfl) rfl (by kernel_rfl) (by kernel_rfl) Tryd.underlying3
/-- The plain wrap with what the row lists, and the world's shape kept. -/
theorem returnsIn_and_shaped {H : Type} {enc : TypeId × Value → H} {a : Assume} {C : Checked} {os : Os} {f : FuncId} {fn : Func} {s : ChangeSpec} {conds : List PathCond} {apart fresh handsOn again : Bool} {X : World → Array Value → Prop}
    (hX : ∀ (w w' : World) (args : Array Value), w.heap = w'.heap → X w args → X w' args)
    (own : ownKnob C.prog.godebug = none) (started : os.Started) (noInit : C.prog.inits.idxOf? f = none) (hfn : C.prog.funcs[f]? = some fn)
    (witness : ∃ (w : World) (tape : Tape) (i : Input), w.os = os ∧ (w.forCall tape i).Shaped C.prog ∧ i.vars = [] ∧ Input.okWide C.prog (w.forCall tape i) .any w.heap.size f i ∧
      ((s.pre enc C.prog fn conds apart (w.forCall tape i).memory i.args ∧ X (w.forCall tape i).memory i.args) ∧ sizedMet enc C.prog fn (OpenSpec.ofChange s) apart (w.forCall tape i).memory i.args) ∧ a.holds C.prog (lone (Frame.enter C.prog f i.args .normal) [] (w.forCall tape i)))
    (contract : ∀ (W : World) (base : Nat) (args : Array Value) (ds gs : List (DataW H)) (before : List MemPlace),
      (∀ (j : Nat) t v, fn.params[j]? = some t → args[j]? = some v → Value.okWide C.prog W .any base t v) →
      DataW.Whole enc C.prog fn.params.toList s.vars apart W args.toList ds gs before →
      conds.all (PathCond.test C.prog ⟨fn.params.toList, ds, s.plain.varTypes C.prog, gs⟩) = true →
      (DataW.weightsEach C.prog (fn.params.toList ++ s.plain.varTypes C.prog) (ds ++ gs)).all (· ≤ reachBytes) = true → X W args → W.ShapedOpen C.prog →
      a.holds C.prog (lone (Frame.enter C.prog f args .normal) [] W) →
      Calls C.prog f args W fun e W' => ∃ v, e = .returned v ∧ s.post enc C.prog fn apart fresh handsOn again W args v W') :
    ReturnsInHanded a C os f .any (fun w args => (s.pre enc C.prog fn conds apart w args ∧ X w args) ∧ sizedMet enc C.prog fn (OpenSpec.ofChange s) apart w args) (s.post enc C.prog fn apart fresh handsOn again) := by
  refine returnsInHanded_of_calls own started noInit witness ?_
  intro w tape i _ hsh _ hok hpre hholds
  obtain ⟨_, _, _, fn', hfn', _, _, _, _, hval⟩ := hok
  obtain rfl : fn' = fn := Option.some.inj (hfn'.symm.trans hfn)
  obtain ⟨⟨⟨ds, gs, before, hw, hc⟩, hx⟩, hz⟩ := hpre
  have hw' := DataW.Whole.of_heap (w' := w.forCall tape i) (by rfl) hw
  refine (contract (w.forCall tape i) w.heap.size i.args ds gs before hval hw' hc (hz.weights hw) (hX _ _ _ (by rfl) hx) hsh hholds).mono fun e W' ⟨v, he, hp⟩ => ?_
  subst he
  exact ChangeSpec.post_blind hp
theorem gw_of {W : World} (h : laidMetH Tryd.prog laidU W) (hs : W.ShapedOpen Tryd.prog) : GW W := ⟨ut_of_laid h, ml_of_shape hs⟩

end Go.Proofs.YtmmkcfjncpcabaaDoor

namespace Go.Proofs.YtmmkcfjncpcabaaDoor
open Go.RowKit

/-- A parser at D and a row of events beside it, that it does not turn. -/
def PG1 (w0 W : World) (D : Nat) (s : PM) (v : Value) (got : List PE) : Prop :=
  ∃ a cs, MI W D s [] a ∧ GT W D ∧ Below w0.heap.size w0 W ∧ w0.heap.size ≤ D ∧ GH s ∧ QS s ∧ W.ownsRow (D + 1) 41 8 v got.length cs ∧ EvL W got cs ∧ ∀ g, some g = v.ownBlock → ¬ Mut D a g
theorem PG1.new {w0 W : World} {D : Nat} {s : PM} (h : C1 w0 W D s) : PG1 w0 W D s (.slice none 0 0) [] := by
  obtain ⟨a, hm⟩ := h.mi
  exact ⟨a, [], hm, h.gt, h.b, h.l, h.gh, h.qs, World.ownsRow_nil _ _ _ _, rfl, fun g e => by cases e⟩
theorem PG1.b {w0 W : World} {D : Nat} {s : PM} {v : Value} {got : List PE} (h : PG1 w0 W D s v got) : Below w0.heap.size w0 W := by
  obtain ⟨a, cs, _, _, h1, _⟩ := h
  exact h1
theorem PG1.past {w0 W W' : World} {D : Nat} {s : PM} {v : Value} {got : List PE} (h : PG1 w0 W D s v got) (hb : Below W.heap.size W W') : PG1 w0 W' D s v got := by
  obtain ⟨a, cs, h1, h2, h3, h4, h5, h6, h7, h8, h9⟩ := h
  exact ⟨a, cs, (h1.past hb).1, h2.past (lt_of_block h1.blk) hb, h3.trans (hb.mono h3.size), h4, h5, h6, own_past h7 hb, EvL.kept (NT.below hb) _ _ h8, h9⟩
theorem PG1.slice {w0 W : World} {D : Nat} {s : PM} {v : Value} {got : List PE} (h : PG1 w0 W D s v got) : ∃ A c, v = .slice A got.length c ∧ EvS W A got := by
  obtain ⟨a, cs, h1, h2, h3, h4, h5, h6, h7, h8, h9⟩ := h
  obtain ⟨A, c, hv, _⟩ := own_formE h7
  subst hv
  exact ⟨A, c, rfl, EvS.of_own h7 rfl h8⟩
/-- Step, beside the row: what it tells lies apart. -/
def TG1 (w0 W : World) (D : Nat) (s : PM) (v : Value) (got : List PE) (A : Option Addr) (es : List PE) (c : Nat) : Prop :=
  ∃ csg cs, PG1 w0 W D s v got ∧ W.ownsRow (D + 1) 41 8 v got.length csg ∧ EvL W got csg ∧ W.ownsRow (D + 1) 41 8 (.slice A es.length c) es.length cs ∧ EvL W es cs ∧ D + 1 ≤ W.heap.size
theorem step_pg {w0 W : World} {D : Nat} {s : PM} {v : Value} {got : List PE} (h : PG1 w0 W D s v got) (x : UInt8) : Calls Tryd.prog 17 #[.pointer (some ⟨D, 0, none⟩), .int .u8 x.toNat] W fun e w' => ∃ A c, e = .returned (.slice A (takeP s x).2.length c) ∧ TG1 w0 w' D (takeP s x).1 v got A (takeP s x).2 c := by
  obtain ⟨a, cs, h1, h2, h3, h4, h5, h6, h7, h8, h9⟩ := h
  refine (step1_mi h1 h2 h5.gq x).mono fun e w' ⟨v', he, cs', a', A', c', hv', hm', hf, ho, hl, hn, hg⟩ => ?_
  subst hv'
  have hb := hf.below h1
  have hlt := lt_of_block hm'.blk
  refine ⟨A', c', he, cs, cs', ⟨a', cs, hm', h2.below (lt_of_block h1.blk) hb, h3.trans (hb.mono h4), h4, h5.take x, h6.take h5.gq x, own_keeps h7 hf.kb (fun g e => h9 g e), EvL.kept (h1.nt hf.kb) _ _ h8, fun g e hi => (hf.mu g hi).elim (h9 g e) (fun hs => by have := (own_lt' h7 e).2; omega)⟩, own_keeps h7 hf.kb (fun g e => h9 g e), EvL.kept (h1.nt hf.kb) _ _ h8, ho, hl, hlt⟩
theorem TG1.put {w0 W w2 : World} {D : Nat} {s : PM} {v v2 : Value} {got es : List PE} {csg cs : List Value} (h : PG1 w0 W D s v got) (ho : W.ownsRow (D + 1) 41 8 v got.length csg) (hl : EvL W got csg) (hl' : EvL W es cs) (hg2 : W.grownBy w2 v.ownBlock) (hb2 : v2.ownBlock = v.ownBlock ∨ v2.ownBlock = some W.heap.size)
    (ho2 : w2.ownsRow (D + 1) 41 8 v2 (got.length + es.length) (csg ++ cs)) : PG1 w0 w2 D s v2 (got ++ es) := by
  obtain ⟨a, _, h1, h2, h3, h4, h5, h6, _, _, h9⟩ := h
  have hkb : KB (fun i => some i = v.ownBlock) W w2 := ⟨hg2.os, hg2.tape, hg2.output, hg2.size, fun i hi hn => hg2.block i hi hn⟩
  have hnt : NT W w2 := fun k cur hk => hg2.block k (by rcases hk with hk | hk <;> exact lt_of_block hk) (fun e => by
    obtain ⟨cu, hc⟩ := own_type ho e.symm
    rcases hk with hk | hk <;> (rw [hc] at hk; cases hk))
  have hD := lt_of_block h1.blk
  have hb : Below D W w2 := ⟨hg2.os, hg2.tape, hg2.output, hg2.size, fun i hi => hg2.block i (by omega) (fun e => by have := (own_lt' ho e).1; omega)⟩
  refine ⟨a, csg ++ cs, h1.other hkb (fun i hi => h9 i hi), h2.below hD hb, h3.trans (hb.mono h4), h4, h5, h6, by rw [List.length_append]; exact ho2, EvL.app _ _ _ _ (EvL.kept hnt _ _ hl) (EvL.kept hnt _ _ hl'), fun g e => ?_⟩
  rcases hb2 with hb2 | hb2
  · exact h9 g (e.trans hb2)
  · have hgz : g = W.heap.size := Option.some.inj (e.trans hb2)
    exact fun hi => by have := (h1.low hi).2; omega
theorem state_pg {w0 W : World} {D : Nat} {s : PM} {v : Value} {got : List PE} (h : PG1 w0 W D s v got) : Calls Tryd.prog 15 #[.pointer (some ⟨D, 0, none⟩)] W (fun e w' => e = .returned (.int .i64 s.state) ∧ Below W.heap.size W w') := by
  obtain ⟨a, cs, h1, _⟩ := h
  exact state_mi h1
theorem held_pg {w0 W : World} {D : Nat} {s : PM} {v : Value} {got : List PE} (h : PG1 w0 W D s v got) : Calls Tryd.prog 16 #[.pointer (some ⟨D, 0, none⟩)] W (fun e w' => e = .returned (.int .i64 (heldP s : Nat)) ∧ Below W.heap.size W w') := by
  obtain ⟨a, cs, h1, _, _, _, h5, _⟩ := h
  exact held_gh h1 h5
/-- A run's answers. -/
def RV (W : World) (E : Nat) (v : Value) (es : List PE) (st : Int) (hd : Nat) : Prop := ∃ cs A n c m, RBl W E v st hd A n c m ∧ W.ownsRow (E + 1) 41 8 v es.length cs ∧ EvL W es cs
theorem RV.past {W W' : World} {E : Nat} {v : Value} {es : List PE} {st : Int} {hd : Nat} (h : RV W E v es st hd) (hb : Below W.heap.size W W') : RV W' E v es st hd := by
  obtain ⟨cs, A, n, c, m, h1, h2, h3⟩ := h
  exact ⟨cs, A, n, c, m, (hb.block E (lt_of_block h1)).trans h1, own_past h2 hb, EvL.kept (NT.below hb) _ _ h3⟩
theorem RV.c {W : World} {E : Nat} {v : Value} {es : List PE} {st : Int} {hd : Nat} (h : RV W E v es st hd) : W.cell? ⟨E, 0, none⟩ = some v ∧ W.cell? ⟨E, 1, none⟩ = some (.int .i64 st) ∧ W.cell? ⟨E, 2, none⟩ = some (.int .i64 hd) := by
  obtain ⟨cs, A, n, c, m, h1, _⟩ := h
  exact ⟨(cell_of_row _ _ 0 _ _ _ h1).trans rfl, (cell_of_row _ _ 1 _ _ _ h1).trans rfl, (cell_of_row _ _ 2 _ _ _ h1).trans rfl⟩
theorem RV.of {W : World} {E : Nat} {A : Option Addr} {c : Nat} {zs : List Nat} {m : Nat} {es : List PE} {st : Int} {hd : Nat} (h : RM W E A c zs m es st hd) : ∃ B k, RV W E (.slice B es.length k) es st hd ∧ EvS W B es := by
  obtain ⟨v, cs, h1, h2, h3⟩ := h.row
  obtain ⟨B, k, hv, _⟩ := own_formE h2
  subst hv
  exact ⟨B, k, ⟨cs, A, zs.length, c, m, h1, h2, h3⟩, EvS.of_own h2 rfl h3⟩
/-- Both. -/
def PGR (w0 W : World) (D E : Nat) (s : PM) (v : Value) (got : List PE) (v' : Value) (es : List PE) (st : Int) (hd : Nat) : Prop := PG1 w0 W D s v got ∧ RV W E v' es st hd
theorem PGR.past {w0 W W' : World} {D E : Nat} {s : PM} {v v' : Value} {got es : List PE} {st : Int} {hd : Nat} (h : PGR w0 W D E s v got v' es st hd) (hb : Below W.heap.size W W') : PGR w0 W' D E s v got v' es st hd := ⟨h.1.past hb, h.2.past hb⟩
theorem PGR.drew {w0 W : World} {D E : Nat} {s : PM} {v v' : Value} {got es : List PE} {st : Int} {hd : Nat} (h : PGR w0 W D E s v got v' es st hd) : PGR w0 W.drew D E s v got v' es st hd := h.past (Below.refl _ _).drew
theorem PGR.c {w0 W : World} {D E : Nat} {s : PM} {v v' : Value} {got es : List PE} {st : Int} {hd : Nat} (h : PGR w0 W D E s v got v' es st hd) : W.cell? ⟨E, 0, none⟩ = some v' ∧ W.cell? ⟨E, 1, none⟩ = some (.int .i64 st) ∧ W.cell? ⟨E, 2, none⟩ = some (.int .i64 hd) := h.2.c
theorem PGR.g {w0 W : World} {D E : Nat} {s : PM} {v v' : Value} {got es : List PE} {st : Int} {hd : Nat} (h : PGR w0 W D E s v got v' es st hd) : PG1 w0 W D s v got := h.1
/-- The parser behind the first bytes, and its events. -/
def SK (k : Nat) (zs : List Nat) (o : Nat) : PM := (takesP (newP k) (u8s (zs.take o))).1
def GK (k : Nat) (zs : List Nat) (o : Nat) : List PE := (takesP (newP k) (u8s (zs.take o))).2
theorem SK_succ (k : Nat) (zs : List Nat) (o : Nat) (h : o < zs.length) : SK k zs (o + 1) = (takeP (SK k zs o) (UInt8.ofNat (zs[o]?.getD 0))).1 ∧ GK k zs (o + 1) = GK k zs o ++ (takeP (SK k zs o) (UInt8.ofNat (zs[o]?.getD 0))).2 := by
  unfold SK GK
  rw [take_snocN zs o h, u8s_cat]
  show (takesP _ (u8s (zs.take o) ++ [UInt8.ofNat _])).1 = _ ∧ (takesP _ (u8s (zs.take o) ++ [UInt8.ofNat _])).2 = _
  rw [takesP_snoc]
  exact ⟨rfl, rfl⟩
theorem GK_len (k : Nat) (zs : List Nat) (o : Nat) : (GK k zs o).length ≤ 5 * zs.length := by
  have := takes_len k (zs.take o)
  rw [List.length_take] at this
  unfold GK
  omega
set_option maxRecDepth 100000 in
set_option maxHeartbeats 8000000 in
theorem parseSteps_main (A : Option Addr) (zs : List Nat) (n c h : Nat) (hn : n = zs.length) (hc : n ≤ c) (hh : h < 256) (hn2 : n ≤ 60) (w : World) (hG : GW w) (hR : BS w w.heap.size A zs) :
    Calls Tryd.prog 4 #[.slice A n c, .int .u8 h] w fun e w' => e = .returned (.bool true) ∧ Below w.heap.size w w' := by
  obtain ⟨i0, hi0, hz0, hz1, hz2⟩ := info_parts Tryd.infoEvent
  have HA : Hid (∀ W, Below w.heap.size w W → Calls Tryd.prog 10 #[] W fun e w' => e = .returned (.bool true) ∧ Below w.heap.size w w') := Lib.hid fun W hW => (awake_any W (hG.below hW)).mono fun _ _ hp => ⟨hp.1, hW.trans (hp.2.mono hW.size)⟩
  have HM : Hid (∀ W (z : Int), z = (h : Int) → Below w.heap.size w W → Calls Tryd.prog 11 #[.int .u8 z] W fun e w' => e = .returned (.pointer (some ⟨W.heap.size, 0, none⟩)) ∧ PG1 w w' W.heap.size (SK (h + 1) zs 0) (.slice none 0 0) (GK (h + 1) zs 0)) := Lib.hid fun W z hz hW => by rw [hz]; exact (made_any h (by omega) W).mono fun _ _ hp => ⟨hp.1, PG1.new (C1.new hG hW hp.2.1 hp.2.2 (by omega))⟩
  have HSP : Hid (∀ W D k v, k < n → PG1 w W D (SK (h + 1) zs k) v (GK (h + 1) zs k) → Calls Tryd.prog 17 #[.pointer (some ⟨D, 0, none⟩), .int .u8 (zs[k]?.getD 0 : Nat)] W fun e w' => ∃ A c es, e = .returned (.slice A es.length c) ∧ GK (h + 1) zs (k + 1) = GK (h + 1) zs k ++ es ∧ TG1 w w' D (SK (h + 1) zs (k + 1)) v (GK (h + 1) zs k) A es c) := Lib.hid fun W D k v hk hp => by
    have hk' : k < zs.length := by omega
    have hb8 : zs[k]?.getD 0 < 256 := by rw [List.getElem?_eq_getElem hk']; exact hR.1 _ (List.getElem_mem hk')
    obtain ⟨e1, e2⟩ := SK_succ (h + 1) zs k hk'
    have hst := step_pg hp (UInt8.ofNat (zs[k]?.getD 0))
    rw [u8n _ hb8] at hst
    refine hst.mono fun e w' ⟨A', c', he, ht⟩ => ⟨A', c', _, he, e2, ?_⟩
    rw [e1]
    exact ht
  have HLN : Hid (∀ o, (GK (h + 1) zs o).length ≤ 300) := Lib.hid fun o => Nat.le_trans (GK_len (h + 1) zs o) (by omega)
  have HOF : Hid (∀ W D k v (m : Int) b off, A = some ⟨b, off, none⟩ → m = (h : Int) + 1 → k ≤ n → PG1 w W D (SK (h + 1) zs k) v (GK (h + 1) zs k) → Calls Tryd.prog 12 #[.slice (some ⟨b, off, none⟩) k c, .int .i64 m] W fun e w' => e = .returned (.pointer (some ⟨W.heap.size, 0, none⟩)) ∧ ∃ B j, PGR w w' D W.heap.size (SK (h + 1) zs k) v (GK (h + 1) zs k) (.slice B (GK (h + 1) zs k).length j) (GK (h + 1) zs k) (SK (h + 1) zs k).state (heldP (SK (h + 1) zs k))) := Lib.hid fun W D k v m b off hA hm hk hp => by
    subst hA
    rw [hm, show (h : Int) + 1 = ((h + 1 : Nat) : Int) by push_cast; rfl]
    have hlk : k = (zs.take k).length := by rw [List.length_take]; omega
    refine (of_any (some ⟨b, off, none⟩) (zs.take k) k c (h + 1) hlk (by omega) (by omega) W (((hR.take k).below hp.b).more hp.b.size)).mono fun e w' ⟨he, hM, hb⟩ => ⟨he, ?_⟩
    have hout := parse_of (h + 1) (zs.take k) (fun z hz => hR.1 z (List.mem_of_mem_take hz))
    rw [← hout] at hM
    obtain ⟨B, j, hv, _⟩ := RV.of hM
    exact ⟨B, j, hp.past hb, hv⟩
  have HZ : Hid (∀ W D E k v B j, PGR w W D E (SK (h + 1) zs k) v (GK (h + 1) zs k) (.slice B (GK (h + 1) zs k).length j) (GK (h + 1) zs k) (SK (h + 1) zs k).state (heldP (SK (h + 1) zs k)) → Calls Tryd.prog 13 #[v, .slice B (GK (h + 1) zs k).length j] W fun e w' => e = .returned (.bool true) ∧ PGR w w' D E (SK (h + 1) zs k) v (GK (h + 1) zs k) (.slice B (GK (h + 1) zs k).length j) (GK (h + 1) zs k) (SK (h + 1) zs k).state (heldP (SK (h + 1) zs k))) := Lib.hid fun W D E k v B j hp => by
    obtain ⟨A1, c1, hv, h1⟩ := hp.1.slice
    subst hv
    have h2 : EvS W B (GK (h + 1) zs k) := by
      obtain ⟨cs, _, _, _, _, _, g2, g3⟩ := hp.2
      exact EvS.of_own g2 rfl g3
    exact (same4_any A1 B _ _ _ _ c1 j rfl rfl (by have := HLN.out k; omega) W h1 h2 (nb_takes _ _).small).mono fun _ _ hq => ⟨by rw [hq.1]; simp, hp.past hq.2⟩
  have HU : Hid (∀ W D E k v v', PGR w W D E (SK (h + 1) zs k) v (GK (h + 1) zs k) v' (GK (h + 1) zs k) (SK (h + 1) zs k).state (heldP (SK (h + 1) zs k)) → Calls Tryd.prog 15 #[.pointer (some ⟨D, 0, none⟩)] W (fun e w' => e = .returned (.int .i64 (SK (h + 1) zs k).state) ∧ PGR w w' D E (SK (h + 1) zs k) v (GK (h + 1) zs k) v' (GK (h + 1) zs k) (SK (h + 1) zs k).state (heldP (SK (h + 1) zs k)))) := Lib.hid fun W D E k v v' hp => (state_pg hp.1).mono fun _ _ hq => ⟨hq.1, hp.past hq.2⟩
  have HH : Hid (∀ W D E k v v', PGR w W D E (SK (h + 1) zs k) v (GK (h + 1) zs k) v' (GK (h + 1) zs k) (SK (h + 1) zs k).state (heldP (SK (h + 1) zs k)) → Calls Tryd.prog 16 #[.pointer (some ⟨D, 0, none⟩)] W (fun e w' => e = .returned (.int .i64 (heldP (SK (h + 1) zs k) : Nat)) ∧ PGR w w' D E (SK (h + 1) zs k) v (GK (h + 1) zs k) v' (GK (h + 1) zs k) (SK (h + 1) zs k).state (heldP (SK (h + 1) zs k)))) := Lib.hid fun W D E k v v' hp => (held_pg hp.1).mono fun _ _ hq => ⟨hq.1, hp.past hq.2⟩
  have n1 : ¬ (60 : Int) < n := by omega
  have HL := Lib.hid hn
  have HR := Lib.hid hR
  clear hn hR hG
  go_enter Tryd.func4, Tryd.ntmps4
  go_wp2_with (first
    | (go_at_call 10; (with_reducible refine (HA.out _ (Below.refl _ _)).mono ?_); rintro e w1 ⟨rfl, hb1⟩; have HB1 := Lib.hid hb1; clear hb1)
    | (go_at_call 11; (with_reducible refine (HM.out w1 _ rfl HB1.out).mono ?_); rintro e w2 ⟨rfl, hm2'⟩; have HC2 := Lib.hid hm2'; clear hm2'))
  go_loopw [6, 7] (fun vg i wr => ∃ (k : Nat) (vo : Value), vo = vg ∧ k ≤ n ∧ i = .int .i64 k ∧ Hid (PG1 w wr w1.heap.size (SK (h + 1) zs k) vo (GK (h + 1) zs k))) (fun _ i _ => n - (intOf i).toNat)
  case atStart => exact ⟨0, _, rfl, Nat.zero_le _, rfl, HC2⟩
  case round =>
    obtain ⟨k, vo, rfl, hk, rfl, HCo⟩ := hrel
    by_cases hlt : k < n
    · obtain ⟨b, off, hA, hbl, hcl⟩ := HR.out.2 (by rintro rfl; have := HL.out; simp at this; omega)
      have hck := (HCo.out.b.cell (p := ⟨b, off + k, none⟩) hbl).trans (hcl k (by rw [← HL.out]; exact hlt))
      have hki : (k : Int) < n := by omega
      have hkc : (k : Int) + 1 ≤ c := by omega
      have HP := Lib.hid (HSP.out wr w1.heap.size k vo hlt HCo.out)
      have HAA := Lib.hid hA
      rw [hA]
      have HLK := HLN.out (k + 1)
      have HOK : Hid (∀ W v m, m = (h : Int) + 1 → PG1 w W w1.heap.size (SK (h + 1) zs (k + 1)) v (GK (h + 1) zs (k + 1)) → Calls Tryd.prog 12 #[.slice (some ⟨b, off, none⟩) (k + 1) c, .int .i64 m] W fun e w' => e = .returned (.pointer (some ⟨W.heap.size, 0, none⟩)) ∧ ∃ B j, PGR w w' w1.heap.size W.heap.size (SK (h + 1) zs (k + 1)) v (GK (h + 1) zs (k + 1)) (.slice B (GK (h + 1) zs (k + 1)).length j) (GK (h + 1) zs (k + 1)) (SK (h + 1) zs (k + 1)).state (heldP (SK (h + 1) zs (k + 1)))) := Lib.hid fun W v m hm hp => HOF.out W _ (k + 1) v m b off HAA.out hm hlt hp
      clear hcl hbl hA HSP
      generalize zs[k]?.getD 0 = z at *
      go_wp2_with (first
        | (go_at_call 17; (with_reducible refine HP.out.mono ?_); rintro e w4 ⟨A4, c4, es4, rfl, hg4, csg4, cs4, hr0, hr1, hr2, hr3, hr4, hr5⟩; have HG4 := Lib.hid hg4; have HR0 := Lib.hid hr0; have HR1 := Lib.hid hr1; have HR2 := Lib.hid hr2; have HR3 := Lib.hid hr3; have HR4 := Lib.hid hr4; have HR5 := Lib.hid hr5; clear hg4 hr0 hr1 hr2 hr3 hr4 hr5)
        | (at_builtin; go_must (refine wpList_append_lotE _ rfl (.tmp 27) (.tmp 33) 29 rfl (w1.heap.size + 1) 41 i0 _ 8 80 Tryd.underlying29 hi0 hz0 hz1 hz2 rfl (by decide) vo (GK (h + 1) zs k).length csg4 rfl HR1.out A4 es4.length c4 cs4 rfl ((own_formE HR3.out).elim fun _ h => h.elim fun _ h => by have h1 := h.1; have h2 := h.2.1; injection h1 with h3 _ h4; rw [h3, h4]; exact h2) HR3.out.1 (own_newsE HR3.out) (EvL.one _ _ HR4.out) (by have h1 := HLK; rw [HG4.out, List.length_append] at h1; unfold maxLen; omega) (by have h1 := HLK; rw [HG4.out, List.length_append] at h1; omega) HR5.out ?_; intro v5 w5 ho5 hg5 hb5; have HC5 : Hid (PG1 w w5 w1.heap.size (SK (h + 1) zs (k + 1)) v5 (GK (h + 1) zs (k + 1))) := Lib.hid (by rw [HG4.out]; exact TG1.put HR0.out HR1.out HR2.out HR4.out hg5 hb5 ho5); clear ho5 hg5 hb5))
        | (go_at_call 12; (with_reducible refine (HOK.out w5 v5 _ rfl HC5.out).mono ?_); rintro e w6 ⟨rfl, B6, j6, hp6⟩; have HC6 := Lib.hid hp6; clear hp6))
      have hS := HC6.out.c
      have hSd := HC6.out.drew.c
      generalize hs' : SK (h + 1) zs (k + 1) = T at *
      generalize hg' : GK (h + 1) zs (k + 1) = es at *
      have HZ1 : Hid (∀ W v B j, PGR w W w1.heap.size w5.heap.size T v es (.slice B es.length j) es T.state (heldP T) → Calls Tryd.prog 13 #[v, .slice B es.length j] W fun e w' => e = .returned (.bool true) ∧ PGR w w' w1.heap.size w5.heap.size T v es (.slice B es.length j) es T.state (heldP T)) := Lib.hid fun W v B j hp => by rw [← hs', ← hg'] at hp ⊢; exact HZ.out W _ _ (k + 1) v B j hp
      have HU1 : Hid (∀ W v v', PGR w W w1.heap.size w5.heap.size T v es v' es T.state (heldP T) → Calls Tryd.prog 15 #[.pointer (some ⟨w1.heap.size, 0, none⟩)] W (fun e w' => e = .returned (.int .i64 T.state) ∧ PGR w w' w1.heap.size w5.heap.size T v es v' es T.state (heldP T))) := Lib.hid fun W v v' hp => by rw [← hs', ← hg'] at hp ⊢; exact HU.out W _ _ (k + 1) v v' hp
      have HH1 : Hid (∀ W v v', PGR w W w1.heap.size w5.heap.size T v es v' es T.state (heldP T) → Calls Tryd.prog 16 #[.pointer (some ⟨w1.heap.size, 0, none⟩)] W (fun e w' => e = .returned (.int .i64 (heldP T : Nat)) ∧ PGR w w' w1.heap.size w5.heap.size T v es v' es T.state (heldP T))) := Lib.hid fun W v v' hp => by rw [← hs', ← hg'] at hp ⊢; exact HH.out W _ _ (k + 1) v v' hp
      have HT1 := Lib.hid hs'
      have HT2 := Lib.hid hg'
      clear hs' hg' HZ HU HH HOK HOF
      go_region_held3 (fun W => W.cell? ⟨w5.heap.size, 0, none⟩ = some (.slice B6 es.length j6) ∧ W.cell? ⟨w5.heap.size, 1, none⟩ = some (.int .i64 T.state) ∧ W.cell? ⟨w5.heap.size, 2, none⟩ = some (.int .i64 (heldP T)))
        (first | exact hS | exact hSd | exact hS4 | exact hS5 | exact hS6 | exact hS7 | assumption)
        (first
          | (go_at_call 13; (with_reducible refine (HZ1.out _ _ _ _ (by first | exact HC6.out | exact HC6.out.drew)).mono ?_); rintro e w7 ⟨rfl, hp5⟩; have hS5 := hp5.c; have HC7 := Lib.hid hp5; clear hp5)
          | (go_at_call 15; (with_reducible refine (HU1.out _ _ _ HC7.out).mono ?_); rintro e w8 ⟨rfl, hp6⟩; have hS6 := hp6.c; have HC8 := Lib.hid hp6; clear hp6)
          | (go_at_call 16; (with_reducible refine (HH1.out _ _ _ HC8.out).mono ?_); rintro e w9 ⟨rfl, hp7⟩; have hS7 := hp7.c; have HC9 := Lib.hid hp7; clear hp7))
      go_wp2
      exact ⟨⟨k + 1, v5, rfl, hlt, by go_num, Lib.hid (by rw [HT1.out, HT2.out]; exact HC9.out.g)⟩, by simp [intOf]; omega⟩
    · have hki : ¬ (k : Int) < n := by omega
      go_wp2
      go_ret
      exact ⟨rfl, HCo.out.b⟩
set_option maxRecDepth 100000 in
set_option maxHeartbeats 8000000 in
theorem parseSteps_law (A : Option Addr) (zs : List Nat) (n c h : Nat) (hn : n = zs.length) (hc : n ≤ c) (hh : h < 256) (w : World) (hG : GW w) (hR : BS w w.heap.size A zs) :
    Calls Tryd.prog 4 #[.slice A n c, .int .u8 h] w fun e w' => e = .returned (.bool true) ∧ Below w.heap.size w w' := by
  by_cases h1 : n ≤ 60
  · exact parseSteps_main A zs n c h hn hc hh h1 w hG hR
  · have HA := Lib.hid (awake_any w hG)
    have n1 : (60 : Int) < n := by omega
    clear hn hR hG
    go_enter Tryd.func4, Tryd.ntmps4
    go_wp2_with (go_at_call 10; (with_reducible refine HA.out.mono ?_); rintro e w1 ⟨rfl, hb1⟩; have HB1 := Lib.hid hb1; clear hb1)
    go_ret
    exact ⟨rfl, HB1.out⟩
theorem parseSteps_lawI (A : Option Addr) (zs : List Nat) (n c : Nat) (h : Int) (hn : n = zs.length) (hc : n ≤ c) (h0 : 0 ≤ h) (hh : h ≤ 255) (w : World) (hG : GW w) (hR : BS w w.heap.size A zs) :
    Calls Tryd.prog 4 #[.slice A n c, .int .u8 h] w fun e w' => e = .returned (.bool true) ∧ Below w.heap.size w w' := by
  obtain ⟨k, rfl⟩ : ∃ k : Nat, h = k := ⟨h.toNat, by omega⟩
  exact parseSteps_law A zs n c k hn hc (by omega) w hG hR

end Go.Proofs.YtmmkcfjncpcabaaDoor

namespace Go.Proofs.YtmmkcfjncpcabaaDoor
open Go.RowKit

theorem Tryd.infoByteC : (Tryd.prog.info? 5).map (fun i => (i.zero, i.size, i.bytes)) = some (some (.int .u8 0), 1, 1) := by kernel_rfl
theorem byteCells_one (T : List UInt8) : ∀ u ∈ Lib.byteCells T, u.oneCell' = true := by
  intro u hu
  unfold Lib.byteCells at hu
  obtain ⟨z, _, rfl⟩ := List.mem_map.1 hu
  rfl
theorem byteCells_len (T : List UInt8) : (Lib.byteCells T).length = T.length := by unfold Lib.byteCells; simp
set_option maxRecDepth 100000 in
set_option maxHeartbeats 4000000 in
theorem clone_any (B : Nat) (v : Value) (T : List UInt8) (w : World) (h : w.ownsRow B 5 1 v T.length (Lib.byteCells T)) (hT : T.length ≤ 100000) :
    Calls Tryd.prog 24 #[v] w fun e w' => ∃ v', e = .returned v' ∧ Below w.heap.size w w' ∧ w'.ownsRow w.heap.size 5 1 v' T.length (Lib.byteCells T) := by
  have hne : ∀ (W : World) (a : Option Addr) (n c n' c' : Nat), (binOp .eql 22 (.slice a n c) (.slice none n' c')).run Tryd.prog W = .ok (.bool a.isNone) W := fun W a n c n' c' => Lib.run_eql_slice_nil W _ _ a n c n' c' Tryd.underlying22
  obtain ⟨A, c, rfl, hA, _⟩ := own_formE h
  cases A with
  | none =>
    obtain ⟨h1, rfl⟩ := hA rfl
    have h2 : T = [] := List.length_eq_zero_iff.1 h1
    subst h2
    clear h hA h1
    go_enter Tryd.func24, Tryd.ntmps24
    go_wp2
    go_ret
    exact ⟨_, rfl, Below.refl _ _, World.ownsRow_nil _ _ _ _⟩
  | some ad =>
    obtain ⟨i0, hi0, hz0, hz1, hz2⟩ := info_parts Tryd.infoByteC
    have HNEW : Hid (∀ j u, (Lib.byteCells T)[j]? = some u → (w.alloc (.cells #[] 5)).cell? (ad.add j) = some u) := Lib.hid fun j u hj => own_newsE (own_past h ((Below.refl _ _).alloc (Nat.le_refl _) _)) ad rfl j u hj
    have HONE := Lib.hid (byteCells_one T)
    have HLEN : Hid ((Lib.byteCells T).length = T.length * 1) := Lib.hid (by rw [byteCells_len, Nat.mul_one])
    have HOWN : Hid ((w.alloc (.cells #[] 5)).ownsRow w.heap.size 5 1 (.slice (some ⟨w.heap.size, 0, none⟩) 0 0) 0 []) := Lib.hid (World.ownsRow_made w #[] 0 (Nat.le_refl _) (by unfold maxLen; omega) rfl)
    have HEND : Hid (∀ w5 v, (w.alloc (.cells #[] 5)).grownBy w5 (some w.heap.size) → w5.ownsRow w.heap.size 5 1 v (0 + T.length) ([] ++ Lib.byteCells T) → Below w.heap.size w w5 ∧ w5.ownsRow w.heap.size 5 1 v T.length (Lib.byteCells T)) := Lib.hid fun w5 v hg ho =>
      ⟨((Below.refl w.heap.size w).alloc (Nat.le_refl _) _).grown hg (by simp) (fun k e => by cases e; exact Nat.le_refl _), by rw [Nat.zero_add] at ho; exact ho⟩
    clear h hA
    generalize Lib.byteCells T = cs at *
    generalize T.length = n at *
    go_enter Tryd.func24, Tryd.ntmps24
    go_wp2_with (at_builtin; go_must (refine wpList_append_own _ rfl _ _ 22 rfl w.heap.size 5 i0 _ 1 1 Tryd.underlying22 hi0 hz0 hz1 hz2 rfl (by decide) (.slice (some ⟨w.heap.size, 0, none⟩) 0 0) 0 [] rfl HOWN.out ad n c cs rfl HLEN.out HNEW.out HONE.out (by unfold maxLen; omega) (by omega) (by simp) ?_; intro v5 w5 hown5 hgrow5 _; have HZ := Lib.hid (HEND.out w5 v5 hgrow5 hown5); clear hown5 hgrow5))
    go_ret
    exact ⟨_, rfl, HZ.out.1, HZ.out.2⟩


end Go.Proofs.YtmmkcfjncpcabaaDoor

namespace Go.Proofs.YtmmkcfjncpcabaaDoor
open Go.RowKit

/-- What All leaves, and that it keeps no row of events. -/
def APN (D : Nat) (s' : PM) (es' : List PE) (a : PV) (w : World) (v : Value) (w' : World) : Prop :=
  ∃ cs a' A c, v = .slice A es'.length c ∧ a'.evs = .slice none 0 0 ∧ MI w' D s' [] a' ∧ Fr D a a' w w' ∧ w'.ownsRow (D + 1) 41 8 v es'.length cs ∧ EvL w' es' cs ∧ (∀ g, some g = v.ownBlock → ¬ Mut D a' g) ∧ ∀ g, some g = v.ownBlock → Mut D a g ∨ w.heap.size ≤ g
theorem MI.handedN {w w' : World} {D : Nat} {s : PM} {es : List PE} {a a0 : PV} {w0 : World} (h : MI w D s es a) (hf : Fr D a0 a w0 w) (hb : PB w' D { a with evs := .slice none 0 0 }) (hg : w.grownBy w' (some D)) : APN D s es a0 w0 a.evs w' := by
  have hkb := kb_of_grown (a := a) hg
  have hnt := h.nt hkb
  obtain ⟨cs, ho, hl⟩ := h.evs
  obtain ⟨A, c, hv, _⟩ := own_form ho
  refine ⟨cs, { a with evs := .slice none 0 0 }, A, c, hv, rfl, ⟨hb, h.pre, keep_row hg h.head, keep_row hg h.inter, h.wrong, h.last, keep_row hg h.pay, h.cut, h.state, h.most, h.dec.block h.blk hb rfl rfl rfl rfl rfl, ⟨[], World.ownsRow_nil _ _ _ _, rfl⟩, h.d1, h.d2⟩, hf.trans ⟨hkb, fun i hi => .inl ?_⟩, keep_row hg ho, EvL.kept hnt _ _ hl, fun g hg2 hm => ?_, fun g hg2 => hf.mu g (.inr (.inr (.inr (.inr hg2))))⟩
  · rcases hi with e | e | e | e | e
    · exact .inl e
    · exact .inr (.inl e)
    · exact .inr (.inr (.inl e))
    · exact .inr (.inr (.inr (.inl e)))
    · cases e
  · have hne := h.evne hg2
    rcases hm with e | e | e | e | e
    · have := h.size hg2 (.inr (.inr (.inr rfl)))
      omega
    · exact hne.1 e
    · exact hne.2.1 e
    · exact hne.2.2 e
    · cases e
set_option maxRecDepth 100000 in
set_option maxHeartbeats 4000000 in
theorem all_miN {w : World} {D : Nat} {s : PM} {a : PV} (h : MI w D s [] a) (hG : GT w D) (hP : GQ s) (A : Option Addr) (bs : List UInt8) (c n : Nat) (hl : n = bs.length) (hR : RB D a w A bs) (hn : n ≤ 10000) : Calls Tryd.prog 14 #[.pointer (some ⟨D, 0, none⟩), .slice A n c] w (fun e w' => ∃ v, e = .returned v ∧ APN D (takesP s bs).1 (takesP s bs).2 a w v w') := by
  have HI := Lib.hid h
  have HG := Lib.hid hG
  have HQ := Lib.hid hP
  have HR := Lib.hid hR
  have HL := Lib.hid hl
  clear h hR hl hG hP
  go_enter Tryd.func14, Tryd.ntmps14
  go_wp2
  go_loopw [12] (fun i wr => ∃ k : Nat, k ≤ n ∧ i = .int .i64 k ∧ Hid (TO D (takesP s (bs.take k)).1 (takesP s (bs.take k)).2 a w wr ∧ (takesP s (bs.take k)).2.length ≤ 5 * k)) (fun i _ => n - (intOf i).toNat)
  case atStart => exact ⟨0, Nat.zero_le _, rfl, Lib.hid ⟨by simpa [takesP] using ⟨a, HI.out, Fr.refl D a w⟩, by simp [takesP]⟩⟩
  case round =>
    obtain ⟨k, hk, rfl, HK⟩ := hrel
    by_cases hlt : k < n
    · obtain ⟨⟨ak, hm, hf⟩, hlen⟩ := HK.out
      have hkl : k < bs.length := HL.out ▸ hlt
      obtain ⟨b, off, e, hblt, hnm, hc⟩ := (HR.out.fr hf) (fun e => by rw [e] at hkl; simp at hkl)
      subst e
      have hck := hc k hkl
      have hli : (k : Int) < n := by omega
      have HC : Hid (Calls Tryd.prog 22 #[.pointer (some ⟨D, 0, none⟩), .int .u8 (bs[k]?.getD 0).toNat] wr (fun e w' => e = .returned (.tuple #[]) ∧ TO D (takesP s (bs.take (k + 1))).1 (takesP s (bs.take (k + 1))).2 a w w')) := Lib.hid ((take_mi hm (HG.out.fr HI.out hf) (HQ.out.takes (bs.take k)) (bs[k]?.getD 0) (by omega)).mono fun _ _ hp => ⟨hp.1, by rw [take_snocU bs k hkl, takesP_snoc]; exact TO.trans hf hp.2⟩)
      have HB : Hid ((takesP s (bs.take (k + 1))).2.length ≤ 5 * (k + 1)) := Lib.hid (by
        rw [take_snocU bs k hkl, takesP_snoc]
        have := takeP_len hm.dec.len (bs[k]?.getD 0)
        simp only [List.length_append]
        omega)
      clear hc hm hf hnm hkl HK HR HL HI HG HQ hlen
      generalize (bs[k]?.getD 0).toNat = r at *
      go_wp2_with (go_at_call 22; (with_reducible refine HC.out.mono ?_); rintro e w2 ⟨rfl, hp⟩; have HP := Lib.hid hp; clear hp)
      go_roundw
      case rel => exact ⟨k + 1, hlt, by go_num, Lib.hid ⟨HP.out, HB.out⟩⟩
      case measure => simp [intOf]; omega
    · have : k = n := by omega
      subst this
      obtain ⟨⟨ak, hm, hf⟩, hlen⟩ := HK.out
      rw [HL.out, List.take_length] at hm
      have hb := hm.blk
      have c14 : wr.cell? ⟨D, 14, none⟩ = some ak.evs := hb.cell 14
      have f14 := hb.free 14
      have HZ : Hid (∀ m, APN D (takesP s bs).1 (takesP s bs).2 a w ak.evs ((wr.drewN m).setCell ⟨D, 14, none⟩ (.slice none 0 0))) := Lib.hid fun m => hm.handedN hf (PB.set (W := wr.drewN m) hb 14 _ rfl) (keptD (w := wr) (W := wr.drewN m) ⟨rfl, rfl, rfl, Nat.le_refl _, fun _ _ _ => rfl⟩ 14 _)
      obtain ⟨A2, c2, hv2, _⟩ : ∃ A c, ak.evs = .slice A (takesP s bs).2.length c ∧ True := hm.evs.elim fun cs h => (own_form h.1).elim fun A h => h.elim fun c h => ⟨A, c, h.1, trivial⟩
      rw [hv2] at c14 HZ
      clear HK HI HR HL HG HQ hm hf hb hlen hv2
      go_wp2
      go_ret
      exact ⟨_, rfl, HZ.out 0⟩

theorem own_low {w : World} {base base' : Nat} {e : TypeId} {size : Nat} {v : Value} {n : Nat} {xs : List Value} (h : w.ownsRow base e size v n xs) (hb : base' ≤ base) : w.ownsRow base' e size v n xs := ⟨h.1, h.2.imp id fun ⟨g, cap, cur, e1, e2, e3⟩ => ⟨g, cap, cur, e1, Nat.le_trans hb e2, e3⟩⟩
theorem keptF {W : World} {F k : Nat} {v : Value} : W.grownBy (W.setCell ⟨F, k, none⟩ v) (some F) := ⟨rfl, rfl, rfl, by simp, fun i _ hne => heap_setCell_other W ⟨F, k, none⟩ i v (fun e => hne (by rw [e]))⟩
/-- The copy at F so far, above all that lay. -/
def CQ (w W : World) (b : PV) : Prop := Below w.heap.size w W ∧ PB W w.heap.size b
theorem CQ.set {w W : World} {b c : PV} (h : CQ w W b) (k : Nat) (v : Value) (hc : b.arr.setIfInBounds k v = c.arr) : CQ w (W.setCell ⟨w.heap.size, k, none⟩ v) c :=
  ⟨h.1.setCell (p := ⟨w.heap.size, k, none⟩) (Nat.le_refl _) v, (heap_setCell_same W w.heap.size k _ _ v h.2).trans (by rw [hc])⟩
theorem clone_cq {w W : World} {b : PV} {B : Nat} {v : Value} {T : List UInt8} (h : CQ w W b) (ho : w.ownsRow B 5 1 v T.length (Lib.byteCells T)) (hT : T.length ≤ 100000) :
    Calls Tryd.prog 24 #[v] W fun e w' => ∃ A c, e = .returned (.slice A T.length c) ∧ CQ w w' b ∧ w'.ownsRow W.heap.size 5 1 (.slice A T.length c) T.length (Lib.byteCells T) ∧ Below W.heap.size W w' := by
  refine (clone_any B v T W (own_past ho h.1) hT).mono fun e w' ⟨v', he, hb, ho'⟩ => ?_
  obtain ⟨A, c, hv, _⟩ := own_formE ho'
  subst hv
  exact ⟨A, c, he, ⟨h.1.trans (hb.mono h.1.size), (hb.block _ (lt_of_block h.2)).trans h.2⟩, ho', hb⟩
theorem DecL.copy {w w' : World} {D F : Nat} {ps : List Nat} {a b : PV} (h : DecL w D ps) (ha : PB w D a) (hb : PB w' F b) (e0 : b.w0 = a.w0) (e1 : b.w1 = a.w1) (e2 : b.w2 = a.w2) (e3 : b.w3 = a.w3) (e4 : b.left = a.left) : DecL w' F ps := by
  have hc : ∀ k, k < 5 → w'.cell? ⟨F, 9 + k, none⟩ = w.cell? ⟨D, 9 + k, none⟩ := fun k hk => by
    rw [ha.cell, hb.cell]
    match k, hk with
    | 0, _ => simp [PV.arr, e0]
    | 1, _ => simp [PV.arr, e1]
    | 2, _ => simp [PV.arr, e2]
    | 3, _ => simp [PV.arr, e3]
    | 4, _ => simp [PV.arr, e4]
  have hl := h.len
  exact ⟨lt_of_block hb, hl, h.byte, (hc 4 (by omega)).trans h.left, fun k hk => (hc k (by omega)).trans (h.wait k hk), fun k hk => by
    obtain ⟨v, hv⟩ := h.room k hk
    exact ⟨v, (hc k (by omega)).trans hv⟩, fun k hk => hb.free _⟩
/-- Behind a copy there are two parsers. -/
theorem copy_end {w w2 w3 w4 : World} {D : Nat} {s : PM} {a : PV} {v1 v2 v3 : Value} (h : MI w D s [] a) (hev : a.evs = .slice none 0 0)
    (o1 : w2.ownsRow (w.heap.size + 1) 5 1 v1 s.head.length (Lib.byteCells s.head)) (b1 : CQ w w2 a)
    (o2 : w3.ownsRow w2.heap.size 5 1 v2 s.inter.length (Lib.byteCells s.inter)) (b2 : Below w2.heap.size (w2.setCell ⟨w.heap.size, 1, none⟩ v1) w3)
    (o3 : w4.ownsRow w3.heap.size 5 1 v3 s.pay.length (Lib.byteCells s.pay)) (b3 : Below w3.heap.size (w3.setCell ⟨w.heap.size, 2, none⟩ v2) w4)
    (hq : CQ w (w4.setCell ⟨w.heap.size, 5, none⟩ v3) { a with head := v1, inter := v2, pay := v3 }) : P2 (w4.setCell ⟨w.heap.size, 5, none⟩ v3) D w.heap.size s s := by
  have hF2 := lt_of_block b1.2
  have z23 : w2.heap.size ≤ w3.heap.size := by have := b2.size; rw [World.size_setCell] at this; exact this
  have z34 : w3.heap.size ≤ w4.heap.size := by have := b3.size; rw [World.size_setCell] at this; exact this
  have o1' : w3.ownsRow (w.heap.size + 1) 5 1 v1 s.head.length (Lib.byteCells s.head) := own_past (keep_row keptF o1) (by rw [World.size_setCell]; exact b2)
  have o1'' : (w4.setCell ⟨w.heap.size, 5, none⟩ v3).ownsRow (w.heap.size + 1) 5 1 v1 s.head.length (Lib.byteCells s.head) := keep_row keptF (own_past (keep_row keptF o1') (by rw [World.size_setCell]; exact b3))
  have o2' : (w4.setCell ⟨w.heap.size, 5, none⟩ v3).ownsRow (w.heap.size + 1) 5 1 v2 s.inter.length (Lib.byteCells s.inter) := keep_row keptF (own_past (keep_row keptF (own_low o2 (by omega))) (by rw [World.size_setCell]; exact b3))
  have o3' : (w4.setCell ⟨w.heap.size, 5, none⟩ v3).ownsRow (w.heap.size + 1) 5 1 v3 s.pay.length (Lib.byteCells s.pay) := keep_row keptF (own_low o3 (by omega))
  have l1 : ∀ g, some g = v1.ownBlock → w.heap.size + 1 ≤ g ∧ g < w2.heap.size := fun g e => own_lt' o1 e
  have l2 : ∀ g, some g = v2.ownBlock → w2.heap.size ≤ g ∧ g < w3.heap.size := fun g e => own_lt' o2 e
  have l3 : ∀ g, some g = v3.ownBlock → w3.heap.size ≤ g ∧ g < w4.heap.size := fun g e => own_lt' o3 e
  refine ⟨a, { a with head := v1, inter := v2, pay := v3 }, (h.past hq.1).1, ⟨hq.2, h.pre, o1'', o2', h.wrong, h.last, o3', h.cut, h.state, h.most, h.dec.copy h.blk hq.2 rfl rfl rfl rfl rfl, ⟨[], by rw [hev]; exact World.ownsRow_nil _ _ _ _, rfl⟩, fun g e => ⟨fun e2 => by have := l1 g e; have := l2 g e2; omega, fun e2 => by have := l1 g e; have := l3 g e2; omega⟩, fun g e e2 => by have := l2 g e; have := l3 g e2; omega⟩, fun i hi hj => ?_⟩
  have hlow := (h.low hi).2
  rcases hj with e | e | e | e | e
  · omega
  · have := l1 i e; omega
  · have := l2 i e; omega
  · have := l3 i e; omega
  · have e : some i = a.evs.ownBlock := e
    rw [hev] at e
    cases e
set_option maxRecDepth 100000 in
set_option maxHeartbeats 8000000 in
theorem copy_mi {w : World} {D : Nat} {s : PM} {a : PV} (h : MI w D s [] a) (hev : a.evs = .slice none 0 0) (hG : GH s) (hm : s.most ≤ 65536) :
    Calls Tryd.prog 18 #[.pointer (some ⟨D, 0, none⟩)] w fun e w' => e = .returned (.pointer (some ⟨w.heap.size, 0, none⟩)) ∧ P2 w' D w.heap.size s s ∧ Below w.heap.size w w' := by
  have hh := h.head
  have hi := h.inter
  have hp := h.pay
  have l1 := hG.gq.gp.hlen
  have l2 := hG.inter
  have l3 := hG.pay
  obtain ⟨A1, k1, e1, _⟩ := own_formE hh
  obtain ⟨A2, k2, e2, _⟩ := own_formE hi
  obtain ⟨A5, k5, e5, _⟩ := own_formE hp
  have hb := h.blk
  obtain ⟨r0, hr0⟩ := h.dec.room 0 (by omega)
  obtain ⟨r1, hr1⟩ := h.dec.room 1 (by omega)
  obtain ⟨r2, hr2⟩ := h.dec.room 2 (by omega)
  obtain ⟨r3, hr3⟩ := h.dec.room 3 (by omega)
  have hlf := h.dec.left
  have c0 : w.cell? ⟨D, 0, none⟩ = some (.int .u8 s.pre) := (hb.cell 0).trans (by rw [← h.pre]; rfl)
  have c1 : w.cell? ⟨D, 1, none⟩ = some (.slice A1 s.head.length k1) := (hb.cell 1).trans (by rw [← e1]; rfl)
  have c2 : w.cell? ⟨D, 2, none⟩ = some (.slice A2 s.inter.length k2) := (hb.cell 2).trans (by rw [← e2]; rfl)
  have c3 : w.cell? ⟨D, 3, none⟩ = some (.bool s.wrong) := (hb.cell 3).trans (by rw [← h.wrong]; rfl)
  have c4 : w.cell? ⟨D, 4, none⟩ = some (.int .u8 s.last) := (hb.cell 4).trans (by rw [← h.last]; rfl)
  have c5 : w.cell? ⟨D, 5, none⟩ = some (.slice A5 s.pay.length k5) := (hb.cell 5).trans (by rw [← e5]; rfl)
  have c6 : w.cell? ⟨D, 6, none⟩ = some (.bool s.cut) := (hb.cell 6).trans (by rw [← h.cut]; rfl)
  have c7 : w.cell? ⟨D, 7, none⟩ = some (.int .i64 s.state) := (hb.cell 7).trans (by rw [← h.state]; rfl)
  have c8 : w.cell? ⟨D, 8, none⟩ = some (.int .i64 s.most) := (hb.cell 8).trans (by rw [← h.most]; rfl)
  have c14 : w.cell? ⟨D, 14, none⟩ = some (.slice none 0 0) := (hb.cell 14).trans (by rw [← hev]; rfl)
  have c9 : w.cell? ⟨D, 9, none⟩ = some (.int .u8 r0) := hr0
  have c10 : w.cell? ⟨D, 10, none⟩ = some (.int .u8 r1) := hr1
  have c11 : w.cell? ⟨D, 11, none⟩ = some (.int .u8 r2) := hr2
  have c12 : w.cell? ⟨D, 12, none⟩ = some (.int .u8 r3) := hr3
  have c13 : w.cell? ⟨D, 13, none⟩ = some (.int .i64 (s.ps.length : Nat)) := hlf
  have ea : a.arr = #[.int .u8 s.pre, .slice A1 s.head.length k1, .slice A2 s.inter.length k2, .bool s.wrong, .int .u8 s.last, .slice A5 s.pay.length k5, .bool s.cut, .int .i64 s.state, .int .i64 s.most, .int .u8 r0, .int .u8 r1, .int .u8 r2, .int .u8 r3, .int .i64 (s.ps.length : Nat), .slice none 0 0] := by
    have g0 : some a.w0 = some (Value.int .u8 r0) := (hb.cell 9).symm.trans hr0
    have g1 : some a.w1 = some (Value.int .u8 r1) := (hb.cell 10).symm.trans hr1
    have g2 : some a.w2 = some (Value.int .u8 r2) := (hb.cell 11).symm.trans hr2
    have g3 : some a.w3 = some (Value.int .u8 r3) := (hb.cell 12).symm.trans hr3
    have g4 : some a.left = some (Value.int .i64 (s.ps.length : Nat)) := (hb.cell 13).symm.trans hlf
    injection g0 with g0
    injection g1 with g1
    injection g2 with g2
    injection g3 with g3
    injection g4 with g4
    unfold PV.arr
    rw [h.pre, e1, e2, h.wrong, h.last, e5, h.cut, h.state, h.most, g0, g1, g2, g3, g4, hev]
  have hlt := lt_of_block hb
  have hDF : ¬ D = w.heap.size := by omega
  have HQ0 : Hid (CQ w (w.alloc (.cells #[.int .u8 s.pre, .slice A1 s.head.length k1, .slice A2 s.inter.length k2, .bool s.wrong, .int .u8 s.last, .slice A5 s.pay.length k5, .bool s.cut, .int .i64 s.state, .int .i64 s.most, .int .u8 r0, .int .u8 r1, .int .u8 r2, .int .u8 r3, .int .i64 (s.ps.length : Nat), .slice none 0 0] 58)) a) := Lib.hid (by
    rw [← ea]
    exact ⟨(Below.refl _ _).alloc (Nat.le_refl _) _, heap_alloc_new w _⟩)
  have HCL : Hid (∀ W b v T, CQ w W b → w.ownsRow (D + 1) 5 1 v T.length (Lib.byteCells T) → T.length ≤ 100000 → Calls Tryd.prog 24 #[v] W fun e w' => ∃ A c, e = .returned (.slice A T.length c) ∧ CQ w w' b ∧ w'.ownsRow W.heap.size 5 1 (.slice A T.length c) T.length (Lib.byteCells T) ∧ Below W.heap.size W w') := Lib.hid fun W b v T hq ho hT => clone_cq hq ho hT
  have HO1 := Lib.hid hh
  have HO2 := Lib.hid hi
  have HO5 := Lib.hid hp
  rw [e1] at HO1
  rw [e2] at HO2
  rw [e5] at HO5
  have HMI := Lib.hid h
  have HEV := Lib.hid hev
  have HL1 : Hid (s.head.length ≤ 100000) := Lib.hid (by omega)
  have HL2 : Hid (s.inter.length ≤ 100000) := Lib.hid (by omega)
  have HL3 : Hid (s.pay.length ≤ 100000) := Lib.hid (by omega)
  have hDC : Hid (∀ W b, CQ w W b → ∀ k, W.cell? ⟨D, k, none⟩ = w.cell? ⟨D, k, none⟩) := Lib.hid fun W b hq k => hq.1.cell (p := ⟨D, k, none⟩) hlt
  clear h hev hG hm hh hi hp hb hr0 hr1 hr2 hr3 hlf e1 e2 e5 ea l1 l2 l3
  go_enter Tryd.func18, Tryd.ntmps18
  go_wp2_with (first
    | (go_at_call 24; (with_reducible refine (HCL.out _ _ _ _ HQ0.out HO1.out HL1.out).mono ?_); rintro e w2 ⟨B1, j1, rfl, hq2, ho2, hb2⟩; have q1 : w2.cell? ⟨w.heap.size, 1, none⟩ = some a.head := hq2.2.cell 1; have f1 := hq2.2.free 1; have d2 := (hDC.out _ _ hq2 2).trans c2; have hs2 := hq2.set (c := { a with head := .slice B1 s.head.length j1 }) 1 (.slice B1 s.head.length j1) rfl; have HQ2 := Lib.hid hq2; have HS2 := Lib.hid hs2; have HN2 := Lib.hid ho2; have HB2 := Lib.hid hb2; clear hq2 ho2 hb2 hs2)
    | (go_at_call 24; (with_reducible refine (HCL.out _ _ _ _ HS2.out HO2.out HL2.out).mono ?_); rintro e w3 ⟨B2, j2, rfl, hq3, ho3, hb3⟩; have q2 : w3.cell? ⟨w.heap.size, 2, none⟩ = some a.inter := hq3.2.cell 2; have f2 := hq3.2.free 2; have d5 := (hDC.out _ _ hq3 5).trans c5; have hs3 := hq3.set (c := { a with head := .slice B1 s.head.length j1, inter := .slice B2 s.inter.length j2 }) 2 (.slice B2 s.inter.length j2) rfl; have HQ3 := Lib.hid hq3; have HS3 := Lib.hid hs3; have HN3 := Lib.hid ho3; have HB3 := Lib.hid hb3; clear hq3 ho3 hb3 hs3)
    | (go_at_call 24; (with_reducible refine (HCL.out _ _ _ _ HS3.out HO5.out HL3.out).mono ?_); rintro e w4 ⟨B5, j5, rfl, hq4, ho4, hb4⟩; have q5 : w4.cell? ⟨w.heap.size, 5, none⟩ = some a.pay := hq4.2.cell 5; have f5 := hq4.2.free 5; have hs4 := hq4.set (c := { a with head := .slice B1 s.head.length j1, inter := .slice B2 s.inter.length j2, pay := .slice B5 s.pay.length j5 }) 5 (.slice B5 s.pay.length j5) rfl; have HS4 := Lib.hid hs4; have HN4 := Lib.hid ho4; have HB4 := Lib.hid hb4; clear hq4 ho4 hb4 hs4))
  go_ret
  refine ⟨rfl, copy_end HMI.out HEV.out (by have := HN2.out; rw [World.size_alloc] at this; exact this) HQ2.out (by have := HN3.out; rw [World.size_setCell] at this; exact this) (by have := HB3.out; rw [World.size_setCell] at this; exact this) (by have := HN4.out; rw [World.size_setCell] at this; exact this) (by have := HB4.out; rw [World.size_setCell] at this; exact this) HS4.out, HS4.out.1⟩

end Go.Proofs.YtmmkcfjncpcabaaDoor

namespace Go.Proofs.YtmmkcfjncpcabaaDoor
open Go.RowKit

theorem bs_newsA {W : World} {B : Nat} {A : Option Addr} {zs : List Nat} (h : BS W B A zs) : ∀ ad, A = some ad → ∀ (j : Nat) (u : Value), (zs.map encB)[j]? = some u → W.cell? (ad.add j) = some u := fun ad hA j u hu => by
  have hne : zs ≠ [] := by rintro rfl; simp at hu
  obtain ⟨b, off, e, _, hc⟩ := h.2 hne
  rw [hA] at e
  injection e with e
  subst e
  exact bs_news hc j u hu
theorem EvS.sliceAt {W : World} {B : Option Addr} {es fs : List PE} {k n : Nat} (h : EvS W B (es ++ fs)) (hk : (es ++ fs).length ≤ k) (hn : n = es.length) : EvS W (if k = n then B else Option.map (fun x => x.add (n * 8)) B) fs := fun hne => by
  subst hn
  have hpos := List.length_pos_iff.2 hne
  rw [List.length_append] at hk
  obtain ⟨b, off, rfl, hlt, hc⟩ := h (by simp [hne])
  rw [if_neg (by omega), Option.map_some, show (⟨b, off, none⟩ : Addr).add (es.length * 8) = ⟨b, off + es.length * 8, none⟩ by unfold Addr.add; split <;> simp_all]
  refine ⟨b, off + es.length * 8, rfl, hlt, fun i hi => ?_⟩
  have := hc (es.length + i) (by rw [List.length_append]; omega)
  rw [List.getElem?_append_right (by omega), show es.length + i - es.length = i by omega, show off + (es.length + i) * 8 = off + es.length * 8 + i * 8 by rw [Nat.add_mul, Nat.add_assoc]] at this
  exact this
/-- All of a new parser that no one has called: it keeps no events. -/
theorem first_all {w w1 w2 : World} {m : Nat} (hG : GW w) (h01 : Below w.heap.size w w1) (h1 : MI w2 w1.heap.size (newP m) [] (newA m)) (hb1 : Below w1.heap.size w1 w2) (hm : m ≤ 65536) (A : Option Addr) (zs : List Nat) (n c : Nat) (hl : n = zs.length) (hc : n ≤ c) (hn : n ≤ 10000) (hR : BS w w.heap.size A zs) :
    Calls Tryd.prog 14 #[.pointer (some ⟨w1.heap.size, 0, none⟩), .slice A n c] w2 fun e w' => ∃ v, e = .returned v ∧ C1 w w' w1.heap.size (takesP (newP m) (u8s zs)).1 ∧ ∃ a, MI w' w1.heap.size (takesP (newP m) (u8s zs)).1 [] a ∧ a.evs = .slice none 0 0 := by
  have hC := C1.new hG h01 h1 hb1 hm
  refine (all_miN h1 hC.gt hC.gh.gq A (u8s zs) c n (by rw [hl]; simp [u8s]) (RB.of_bs h1 hR hC.l hC.b hc) hn).mono fun e w' ⟨v, he, cs, a', A', c', hv, hev, hm', hf, ho, hl', hn', hg'⟩ => ?_
  have hb := hf.below h1
  exact ⟨v, he, ⟨⟨a', hm'⟩, hC.gt.below hC.lt hb, hC.b.trans (hb.mono hC.l), hC.l, hC.gh.takes _, hC.qs.takes _ hC.gh.gq⟩, a', hm', hev⟩
theorem copy_cs {w W : World} {D : Nat} {s : PM} (h : C1 w W D s) {a : PV} (hm : MI W D s [] a) (hev : a.evs = .slice none 0 0) : Calls Tryd.prog 18 #[.pointer (some ⟨D, 0, none⟩)] W fun e w' => e = .returned (.pointer (some ⟨W.heap.size, 0, none⟩)) ∧ CS w w' D W.heap.size s s := by
  have hz := h.b.size
  refine (copy_mi hm hev h.gh h.gh.gq.gp.most).mono fun e w' ⟨he, hp, hb⟩ => ⟨he, hp, h.gt.past h.lt hb, ?_, h.b.trans (hb.mono hz), h.l, hz, h.gh, h.gh⟩
  have g1 := h.gt.past h.lt hb
  exact ⟨g1.ut, Nat.lt_trans g1.d1 h.lt, Nat.lt_trans g1.d2 h.lt, g1.ml, Nat.lt_trans g1.d3 h.lt⟩
/-- Two parsers, what the second one told, and two runs. -/
def CR2 (w W : World) (D E : Nat) (s t : PM) (v : Value) (es : List PE) (F : Nat) (vr : Value) (er : List PE) (str : Int) (hr : Nat) (G : Nat) (vs : Value) (eo : List PE) (sts : Int) (hs : Nat) : Prop := CSV w W D E s t v es ∧ RV W F vr er str hr ∧ RV W G vs eo sts hs
theorem CR2.past {w W W' : World} {D E : Nat} {s t : PM} {v : Value} {es : List PE} {F : Nat} {vr : Value} {er : List PE} {str : Int} {hr : Nat} {G : Nat} {vs : Value} {eo : List PE} {sts : Int} {hs : Nat} (h : CR2 w W D E s t v es F vr er str hr G vs eo sts hs) (hb : Below W.heap.size W W') : CR2 w W' D E s t v es F vr er str hr G vs eo sts hs := ⟨h.1.past hb, h.2.1.past hb, h.2.2.past hb⟩
theorem CR2.c {w W : World} {D E : Nat} {s t : PM} {v : Value} {es : List PE} {F : Nat} {vr : Value} {er : List PE} {str : Int} {hr : Nat} {G : Nat} {vs : Value} {eo : List PE} {sts : Int} {hs : Nat} (h : CR2 w W D E s t v es F vr er str hr G vs eo sts hs) : W.cell? ⟨F, 0, none⟩ = some vr ∧ W.cell? ⟨F, 1, none⟩ = some (.int .i64 str) ∧ W.cell? ⟨G, 0, none⟩ = some vs := ⟨h.2.1.c.1, h.2.1.c.2.1, h.2.2.c.1⟩
theorem CR2.cs {w W : World} {D E : Nat} {s t : PM} {v : Value} {es : List PE} {F : Nat} {vr : Value} {er : List PE} {str : Int} {hr : Nat} {G : Nat} {vs : Value} {eo : List PE} {sts : Int} {hs : Nat} (h : CR2 w W D E s t v es F vr er str hr G vs eo sts hs) : CS w W D E s t := h.1.cs
/-- Two parsers and a run. -/
def CR1 (w W : World) (D E : Nat) (s t : PM) (F : Nat) (vr : Value) (er : List PE) (str : Int) (hr : Nat) : Prop := CS w W D E s t ∧ RV W F vr er str hr
theorem CR1.past {w W W' : World} {D E : Nat} {s t : PM} {F : Nat} {vr : Value} {er : List PE} {str : Int} {hr : Nat} (h : CR1 w W D E s t F vr er str hr) (hb : Below W.heap.size W W') : CR1 w W' D E s t F vr er str hr := ⟨h.1.past hb, h.2.past hb⟩
theorem CR1.c {w W : World} {D E : Nat} {s t : PM} {F : Nat} {vr : Value} {er : List PE} {str : Int} {hr : Nat} (h : CR1 w W D E s t F vr er str hr) : W.cell? ⟨F, 1, none⟩ = some (.int .i64 str) ∧ W.cell? ⟨F, 2, none⟩ = some (.int .i64 hr) := ⟨h.2.c.2.1, h.2.c.2.2⟩
theorem CR1.b {w W : World} {D E : Nat} {s t : PM} {F : Nat} {vr : Value} {er : List PE} {str : Int} {hr : Nat} (h : CR1 w W D E s t F vr er str hr) : Below w.heap.size w W := h.1.b
/-- A run over any bytes that lie above nothing that the parsers turn. -/
theorem of_rv (A : Option Addr) (zs : List Nat) (n c m : Nat) (hnz : n = zs.length) (hc : n ≤ c) (hn : n ≤ 1000) (w : World) (hR : BS w w.heap.size A zs) :
    Calls Tryd.prog 12 #[.slice A n c, .int .i64 m] w fun e w' => e = .returned (.pointer (some ⟨w.heap.size, 0, none⟩)) ∧ Below w.heap.size w w' ∧ ∃ B k, RV w' w.heap.size (.slice B (takesP (newP m) (u8s zs)).2.length k) (takesP (newP m) (u8s zs)).2 (takesP (newP m) (u8s zs)).1.state (heldP (takesP (newP m) (u8s zs)).1) ∧ (takesP (newP m) (u8s zs)).2.length ≤ k := by
  refine (of_any A zs n c m hnz hc hn w hR).mono fun e w' ⟨he, hM, hb⟩ => ⟨he, hb, ?_⟩
  rw [← parse_of m zs hR.1] at hM
  obtain ⟨B, k, hv, _⟩ := RV.of hM
  refine ⟨B, k, hv, ?_⟩
  obtain ⟨cs, _, _, _, _, _, ho, _⟩ := hv
  exact own_cap ho
theorem enc_app (zs ys : List Nat) : [] ++ zs.map encB ++ ys.map encB = (zs ++ ys).map encB := by simp

end Go.Proofs.YtmmkcfjncpcabaaDoor

namespace Go.Proofs.YtmmkcfjncpcabaaDoor
open Go.RowKit

set_option maxRecDepth 100000 in
set_option maxHeartbeats 16000000 in
theorem parseCopies_main (A1 A2 A3 : Option Addr) (zs ys xs : List Nat) (n1 c1 n2 c2 n3 c3 : Nat) (hn1 : n1 = zs.length) (hc1 : n1 ≤ c1) (hn2 : n2 = ys.length) (hc2 : n2 ≤ c2) (hn3 : n3 = xs.length) (hc3 : n3 ≤ c3) (hz1 : A1 = none → n1 = 0 ∧ c1 = 0) (hz2 : A2 = none → n2 = 0 ∧ c2 = 0) (hz3 : A3 = none → n3 = 0 ∧ c3 = 0)
    (hm1 : n1 ≤ 200) (hm2 : n2 ≤ 100) (hm3 : n3 ≤ 100) (w : World) (hG : GW w) (hR1 : BS w w.heap.size A1 zs) (hR2 : BS w w.heap.size A2 ys) (hR3 : BS w w.heap.size A3 xs) :
    Calls Tryd.prog 8 #[.slice A1 n1 c1, .slice A2 n2 c2, .slice A3 n3 c3] w fun e w' => e = .returned (.bool true) ∧ Below w.heap.size w w' := by
  obtain ⟨i0, hi0, hzz0, hzz1, hzz2⟩ := info_parts Tryd.infoByteC
  have HA : Hid (∀ W, Below w.heap.size w W → Calls Tryd.prog 10 #[] W fun e w' => e = .returned (.bool true) ∧ Below w.heap.size w w') := Lib.hid fun W hW => (awake_any W (hG.below hW)).mono fun _ _ hp => ⟨hp.1, hW.trans (hp.2.mono hW.size)⟩
  have HM : Hid (∀ W, Calls Tryd.prog 11 #[.int .u8 50] W fun e w' => e = .returned (.pointer (some ⟨W.heap.size, 0, none⟩)) ∧ MI w' W.heap.size (newP 51) [] (newA 51) ∧ Below W.heap.size W w') := Lib.hid fun W => made_any 50 (by omega) W
  obtain ⟨s0, hs0⟩ : ∃ s, s = (takesP (newP 51) (u8s zs)).1 := ⟨_, rfl⟩
  obtain ⟨e0, he0⟩ : ∃ e, e = (takesP (newP 51) (u8s zs)).2 := ⟨_, rfl⟩
  obtain ⟨s1, hs1⟩ : ∃ s, s = (takesP s0 (u8s xs)).1 := ⟨_, rfl⟩
  obtain ⟨s2, hs2⟩ : ∃ s, s = (takesP s0 (u8s ys)).1 := ⟨_, rfl⟩
  obtain ⟨e2, he2⟩ : ∃ e, e = (takesP s0 (u8s ys)).2 := ⟨_, rfl⟩
  have hcat : (takesP (newP 51) (u8s (zs ++ ys))).1 = s2 ∧ (takesP (newP 51) (u8s (zs ++ ys))).2 = e0 ++ e2 := by
    rw [u8s_cat, takesP_app, hs2, he2, hs0, he0]
    exact ⟨rfl, rfl⟩
  have hcat3 : (takesP (newP 51) (u8s (zs ++ xs))).1 = s1 := by
    rw [u8s_cat, takesP_app, hs1, hs0]
  have HLN : Hid (e0.length ≤ 2000 ∧ (e0 ++ e2).length ≤ 4000) := Lib.hid (by
    have h1 := takes_len 51 zs
    have h2 := takes_len 51 (zs ++ ys)
    rw [hcat.2] at h2
    rw [← he0] at h1
    have h9 : (zs ++ ys).length = zs.length + ys.length := by simp
    omega)
  have HNB : Hid (NB e2) := Lib.hid (by rw [he2]; exact nb_takes _ _)
  have HF : Hid (∀ w1 w2, Below w.heap.size w w1 → MI w2 w1.heap.size (newP 51) [] (newA 51) → Below w1.heap.size w1 w2 → Calls Tryd.prog 14 #[.pointer (some ⟨w1.heap.size, 0, none⟩), .slice A1 n1 c1] w2 fun e w' => ∃ v, e = .returned v ∧ C1 w w' w1.heap.size s0 ∧ ∃ a, MI w' w1.heap.size s0 [] a ∧ a.evs = .slice none 0 0) := Lib.hid fun w1 w2 h01 h1 hb1 => by
    rw [hs0]
    exact first_all hG h01 h1 hb1 (by omega) A1 zs n1 c1 hn1 hc1 (by omega) hR1
  have HCP : Hid (∀ W D, C1 w W D s0 → (∃ a, MI W D s0 [] a ∧ a.evs = .slice none 0 0) → Calls Tryd.prog 18 #[.pointer (some ⟨D, 0, none⟩)] W fun e w' => e = .returned (.pointer (some ⟨W.heap.size, 0, none⟩)) ∧ CS w w' D W.heap.size s0 s0) := Lib.hid fun W D h ⟨a, hm, hev⟩ => copy_cs h hm hev
  have HP1 : Hid (∀ W D F, CS w W D F s0 s0 → Calls Tryd.prog 14 #[.pointer (some ⟨D, 0, none⟩), .slice A3 n3 c3] W fun e w' => ∃ v, e = .returned v ∧ CS w w' F D s0 s1) := Lib.hid fun W D F h => (all_cs h A3 xs n3 c3 hn3 hc3 (by omega) hR3).mono fun _ _ ⟨v, h1, h2⟩ => ⟨v, h1, by rw [hs1]; exact h2.cs.swap⟩
  have HP2 : Hid (∀ W D F, CS w W F D s0 s1 → Calls Tryd.prog 14 #[.pointer (some ⟨F, 0, none⟩), .slice A2 n2 c2] W fun e w' => ∃ Al cl, e = .returned (.slice Al e2.length cl) ∧ CSV w w' F D s2 s1 (.slice Al e2.length cl) e2) := Lib.hid fun W D F h => (all_cs h A2 ys n2 c2 hn2 hc2 (by omega) hR2).mono fun _ _ ⟨v, h1, h2⟩ => by
    rw [← hs2, ← he2] at h2
    obtain ⟨Al, cl, hv⟩ := h2.slice
    subst hv
    exact ⟨Al, cl, h1, h2⟩
  have HO1 : Hid (∀ W Ab cb F D v, n1 + n2 ≤ cb → BS W W.heap.size Ab (zs ++ ys) → CSV w W F D s2 s1 v e2 → Calls Tryd.prog 12 #[.slice Ab (n1 + n2) cb, .int .i64 51] W fun e w' => e = .returned (.pointer (some ⟨W.heap.size, 0, none⟩)) ∧ CSV w w' F D s2 s1 v e2 ∧ ∃ B k, RV w' W.heap.size (.slice B (e0 ++ e2).length k) (e0 ++ e2) s2.state (heldP s2) ∧ (e0 ++ e2).length ≤ k) := Lib.hid fun W Ab cb F D v hk hB hC => (of_rv Ab (zs ++ ys) (n1 + n2) cb 51 (by rw [List.length_append]; omega) hk (by omega) W hB).mono fun e w' ⟨he, hb, hx⟩ => by
    rw [hcat.1, hcat.2] at hx
    exact ⟨he, hC.past hb, hx⟩
  have HO2 : Hid (∀ W F D v E vr, CSV w W F D s2 s1 v e2 → RV W E vr (e0 ++ e2) s2.state (heldP s2) → Calls Tryd.prog 12 #[.slice A1 n1 c1, .int .i64 51] W fun e w' => e = .returned (.pointer (some ⟨W.heap.size, 0, none⟩)) ∧ ∃ B k, CR2 w w' F D s2 s1 v e2 E vr (e0 ++ e2) s2.state (heldP s2) W.heap.size (.slice B e0.length k) e0 s0.state (heldP s0)) := Lib.hid fun W F D v E vr hC hV => (of_rv A1 zs n1 c1 51 hn1 hc1 (by omega) W ((hR1.below hC.cs.b).more hC.cs.b.size)).mono fun e w' ⟨he, hb, B, k, hx, _⟩ => by
    rw [← hs0, ← he0] at hx
    exact ⟨he, B, k, hC.past hb, hV.past hb, hx⟩
  have HO3 : Hid (∀ W Ab cb F D, n1 + n3 ≤ cb → BS W W.heap.size Ab (zs ++ xs) → CS w W F D s2 s1 → Calls Tryd.prog 12 #[.slice Ab (n1 + n3) cb, .int .i64 51] W fun e w' => e = .returned (.pointer (some ⟨W.heap.size, 0, none⟩)) ∧ ∃ vr er, CR1 w w' D F s1 s2 W.heap.size vr er s1.state (heldP s1)) := Lib.hid fun W Ab cb F D hk hB hC => (of_rv Ab (zs ++ xs) (n1 + n3) cb 51 (by rw [List.length_append]; omega) hk (by omega) W hB).mono fun e w' ⟨he, hb, B, k, hx, _⟩ => by
    rw [hcat3] at hx
    exact ⟨he, _, _, (hC.past hb).swap, hx⟩
  have HZ : Hid (∀ W F D Al cl E B k G vs, (e0 ++ e2).length ≤ k → CR2 w W F D s2 s1 (.slice Al e2.length cl) e2 E (.slice B (e0 ++ e2).length k) (e0 ++ e2) s2.state (heldP s2) G vs e0 s0.state (heldP s0) → ∀ X m c', m = e2.length → X = (if k = e0.length then B else Option.map (fun x => x.add (e0.length * 8)) B) → Calls Tryd.prog 13 #[.slice Al e2.length cl, .slice X m c'] W fun e w' => e = .returned (.bool true) ∧ CR2 w w' F D s2 s1 (.slice Al e2.length cl) e2 E (.slice B (e0 ++ e2).length k) (e0 ++ e2) s2.state (heldP s2) G vs e0 s0.state (heldP s0)) := Lib.hid fun W F D Al cl E B k G vs hk hC X m c' hm hX => by
    subst hX; subst hm
    obtain ⟨A', c'', hv, h1⟩ := hC.1.pv.evs
    injection hv with hv _ _
    subst hv
    have h2 : EvS W B (e0 ++ e2) := by
      obtain ⟨cs, _, _, _, _, _, g2, g3⟩ := hC.2.1
      exact EvS.of_own g2 rfl g3
    have h3 := h2.sliceAt hk (n := e0.length) rfl
    exact (same4_any Al _ e2 e2 e2.length e2.length cl c' rfl rfl (by have := HLN.out.2; rw [List.length_append] at this; omega) W h1 h3 HNB.out.small).mono fun _ _ hq => ⟨by rw [hq.1]; simp, hC.past hq.2⟩
  have HU : Hid (∀ W F D v E vr G vs, CR2 w W F D s2 s1 v e2 E vr (e0 ++ e2) s2.state (heldP s2) G vs e0 s0.state (heldP s0) → Calls Tryd.prog 15 #[.pointer (some ⟨F, 0, none⟩)] W (fun e w' => e = .returned (.int .i64 s2.state) ∧ CR2 w w' F D s2 s1 v e2 E vr (e0 ++ e2) s2.state (heldP s2) G vs e0 s0.state (heldP s0))) := Lib.hid fun W F D v E vr G vs h => (state_cs h.cs).mono fun _ _ hq => ⟨hq.1, h.past hq.2⟩
  have HU1 : Hid (∀ W F D E vr er, CR1 w W D F s1 s2 E vr er s1.state (heldP s1) → Calls Tryd.prog 15 #[.pointer (some ⟨D, 0, none⟩)] W (fun e w' => e = .returned (.int .i64 s1.state) ∧ CR1 w w' D F s1 s2 E vr er s1.state (heldP s1))) := Lib.hid fun W F D E vr er h => (state_cs h.1).mono fun _ _ hq => ⟨hq.1, h.past hq.2⟩
  have HH1 : Hid (∀ W F D E vr er, CR1 w W D F s1 s2 E vr er s1.state (heldP s1) → Calls Tryd.prog 16 #[.pointer (some ⟨D, 0, none⟩)] W (fun e w' => e = .returned (.int .i64 (heldP s1 : Nat)) ∧ CR1 w w' D F s1 s2 E vr er s1.state (heldP s1))) := Lib.hid fun W F D E vr er h => (held_cs h.1).mono fun _ _ hq => ⟨hq.1, h.past hq.2⟩
  -- what append lays
  have HAP : Hid (∀ W, Below w.heap.size w W → (W.alloc (.cells #[] 5)).ownsRow W.heap.size 5 1 (.slice (some ⟨W.heap.size, 0, none⟩) 0 0) 0 [] ∧ (∀ ad, A1 = some ad → ∀ (j : Nat) (u : Value), (zs.map encB)[j]? = some u → (W.alloc (.cells #[] 5)).cell? (ad.add j) = some u)) := Lib.hid fun W hW => ⟨World.ownsRow_made W #[] 0 (Nat.le_refl _) (by unfold maxLen; omega) rfl, bs_newsA (hR1.below (hW.trans (((Below.refl W.heap.size W).alloc (Nat.le_refl _) _).mono hW.size)))⟩
  have HNY : Hid (∀ W, Below w.heap.size w W → (∀ ad, A2 = some ad → ∀ (j : Nat) (u : Value), (ys.map encB)[j]? = some u → W.cell? (ad.add j) = some u) ∧ (∀ ad, A3 = some ad → ∀ (j : Nat) (u : Value), (xs.map encB)[j]? = some u → W.cell? (ad.add j) = some u)) := Lib.hid fun W hW => ⟨bs_newsA (hR2.below hW), bs_newsA (hR3.below hW)⟩
  have HL1 : Hid ((zs.map encB).length = n1 * 1) := Lib.hid (by rw [List.length_map, Nat.mul_one, hn1])
  have HL2 : Hid ((ys.map encB).length = n2 * 1) := Lib.hid (by rw [List.length_map, Nat.mul_one, hn2])
  have HL3 : Hid ((xs.map encB).length = n3 * 1) := Lib.hid (by rw [List.length_map, Nat.mul_one, hn3])
  have HW7 : Hid (∀ W W7, (W.alloc (.cells #[] 5)).grownBy W7 (some W.heap.size) → Below W.heap.size W W7 ∧ W.heap.size ≤ W7.heap.size) := Lib.hid fun W W7 hg => ⟨((Below.refl W.heap.size W).alloc (Nat.le_refl _) _).grown hg (by simp) (fun k e => by cases e; exact Nat.le_refl _), by have := hg.size; simp at this; omega⟩
  have HW8 : Hid (∀ W W7 W8 v7 (n : Nat) (ls : List Value), W7.ownsRow W.heap.size 5 1 v7 n ls → Below W.heap.size W W7 → W7.grownBy W8 v7.ownBlock → Below W.heap.size W W8) := Lib.hid fun W W7 W8 v7 n ls ho hb hg => hb.grown hg hb.size (fun k e => (own_lt' ho e.symm).1)
  have HB8 : Hid (∀ (W8 : World) (B : Nat) (v8 : Value) (qs : List Nat) (k m : Nat), (∀ z ∈ qs, z < 256) → W8.ownsRow B 5 1 v8 ((0 + k) + m) ([] ++ zs.map encB ++ qs.map encB) → ∃ Ab cb, v8 = .slice Ab (k + m) cb ∧ k + m ≤ cb ∧ BS W8 W8.heap.size Ab (zs ++ qs)) := Lib.hid fun W8 B v8 qs k m hq ho => by
    rw [enc_app, Nat.zero_add] at ho
    obtain ⟨Ab, cb, hv, _⟩ := own_formE ho
    subst hv
    exact ⟨Ab, cb, rfl, own_cap ho, BS.of_own (fun z hz => (List.mem_append.1 hz).elim (hR1.1 z) (hq z)) ho⟩
  have HQ2 := Lib.hid hR2.1
  have HQ3 := Lib.hid hR3.1
  have HZ1 := Lib.hid hz1
  have HZ2 := Lib.hid hz2
  have HZ3 := Lib.hid hz3
  have m1 : ¬ (200 : Int) < n1 := by omega
  have m2 : ¬ (100 : Int) < n2 := by omega
  have m3 : ¬ (100 : Int) < n3 := by omega
  clear hn1 hn2 hn3 hR1 hR2 hR3 hG hs0 he0 hs1 hs2 he2 hcat hcat3 hz1 hz2 hz3
  go_enter Tryd.func8, Tryd.ntmps8
  go_wp2_with (first
    | (go_at_call 10; (with_reducible refine (HA.out _ (Below.refl _ _)).mono ?_); rintro e w1 ⟨rfl, hb1⟩; have HB1 := Lib.hid hb1; clear hb1)
    | (go_at_call 11; (with_reducible refine (HM.out w1).mono ?_); rintro e w2 ⟨rfl, hm2', hb2⟩; have HM2 := Lib.hid hm2'; have HB2 := Lib.hid hb2; clear hm2' hb2)
    | (go_at_call 14; (with_reducible refine (HF.out _ _ HB1.out HM2.out HB2.out).mono ?_); rintro e w3 ⟨v3, rfl, hc3', hx3⟩; have HC3 := Lib.hid hc3'; have HX3 := Lib.hid hx3; clear hc3' hx3)
    | (go_at_call 18; (with_reducible refine (HCP.out _ _ HC3.out HX3.out).mono ?_); rintro e w4 ⟨rfl, hc4⟩; have HC4 := Lib.hid hc4; clear hc4)
    | (go_at_call 14; (with_reducible refine (HP1.out _ _ _ HC4.out).mono ?_); rintro e w5 ⟨v5, rfl, hc5⟩; have HC5 := Lib.hid hc5; clear hc5)
    | (go_at_call 14; (with_reducible refine (HP2.out _ _ _ HC5.out).mono ?_); rintro e w6 ⟨A6, c6, rfl, hc6⟩; have HC6 := Lib.hid hc6; obtain ⟨ha6, ha7⟩ := HAP.out w6 hc6.cs.b; have HA6 := Lib.hid ha6; have HA7 := Lib.hid ha7; clear hc6 ha6 ha7)
    | (at_builtin; refine wpList_append_lotE _ rfl (.tmp 47) (.tmp 48) 22 rfl w6.heap.size 5 i0 _ 1 1 Tryd.underlying22 hi0 hzz0 hzz1 hzz2 rfl (by decide) (.slice (some ⟨w6.heap.size, 0, none⟩) 0 0) 0 [] rfl HA6.out A1 n1 c1 (zs.map encB) rfl HZ1.out HL1.out HA7.out (encB_one _) (by unfold maxLen; omega) (by omega) (by simp) ?_; intro v7 w7 ho7 hg7 hb7; obtain ⟨hb7', hz7⟩ := HW7.out _ _ hg7; have HO7 := Lib.hid ho7; have HB7 := Lib.hid hb7'; have HNY7 := Lib.hid (HNY.out w7 (HC6.out.cs.b.trans (hb7'.mono HC6.out.cs.b.size))).1; clear ho7 hg7 hb7 hb7')
    | (at_builtin; go_must (refine wpList_append_lotE _ rfl (.tmp 49) (.tmp 50) 22 rfl w6.heap.size 5 i0 _ 1 1 Tryd.underlying22 hi0 hzz0 hzz1 hzz2 rfl (by decide) v7 (0 + n1) ([] ++ zs.map encB) rfl HO7.out A2 n2 c2 (ys.map encB) rfl HZ2.out HL2.out HNY7.out (encB_one _) (by unfold maxLen; omega) (by omega) hz7 ?_; intro v8 w8 ho8 hg8 hb8; obtain ⟨A8, c8, rfl, hk8, hs8⟩ := HB8.out w8 _ v8 ys n1 n2 HQ2.out ho8; have hb8' := HW8.out _ _ _ _ _ _ HO7.out HB7.out hg8; have HC8 := Lib.hid (HC6.out.past hb8'); have HS8 := Lib.hid hs8; clear ho8 hg8 hb8 hs8 hb8'))
    | (go_at_call 12; (with_reducible refine (HO1.out w8 A8 c8 _ _ _ hk8 HS8.out HC8.out).mono ?_); rintro e w9 ⟨rfl, hc9, B9, k9, hv9, hl9⟩; have HC9 := Lib.hid hc9; have HV9 := Lib.hid hv9; have HL9 := Lib.hid hl9; clear hc9 hv9)
    | (go_at_call 12; (with_reducible refine (HO2.out w9 _ _ _ _ _ HC9.out HV9.out).mono ?_); rintro e w10 ⟨rfl, B10, k10, hc10⟩; have HC10 := Lib.hid hc10; clear hc10))
  have hS := HC10.out.c
  have hSd := (HC10.out.past (Below.refl _ _).drew).c
  have HCD := Lib.hid (HC10.out.past (Below.refl _ _).drew)
  have hl9 := HL9.out
  have HE2 : Hid ((e0 ++ e2).length = e0.length + e2.length) := Lib.hid List.length_append
  have hN1 : e0.length ≤ (e0 ++ e2).length := by have := HE2.out; omega
  have HEE : Hid (e2.length = (e0 ++ e2).length - e0.length) := Lib.hid (by have := HE2.out; omega)
  generalize hN : (e0 ++ e2).length = N at *
  generalize hN0 : e0.length = N0 at *
  generalize he : e0 ++ e2 = es at *
  have HNN := Lib.hid (And.intro hN (And.intro hN0 he))
  clear hN hN0 he HE2
  have t1 : ((N : Int) < N0) = False := by simp; omega
  have t2 : (N0 : Int) ≤ N := by omega
  have t3 : (N : Int) ≤ k9 := by omega
  have t4 : (N0 : Int) ≤ k9 := by omega
  by_cases hk : k9 = N0
  · subst hk
    go_region_held3 (fun W => W.cell? ⟨w8.heap.size, 0, none⟩ = some (.slice B9 N k9) ∧ W.cell? ⟨w8.heap.size, 1, none⟩ = some (.int .i64 s2.state) ∧ W.cell? ⟨w9.heap.size, 0, none⟩ = some (.slice B10 k9 k10))
      (first | exact hS | exact hSd | exact hS5 | exact hS6 | assumption)
      (first
        | (go_at_call 13; (with_reducible refine (HZ.out _ _ _ _ _ _ _ _ _ _ hl9 (by first | exact HC10.out | exact HCD.out) _ _ _ (by have h9 := HEE.out; omega) (if_pos rfl).symm).mono ?_); rintro e w11 ⟨rfl, hp5⟩; have hS5 := hp5.c; have HC11 := Lib.hid hp5; clear hp5)
        | (go_at_call 15; (with_reducible refine (HU.out _ _ _ _ _ _ _ _ HC11.out).mono ?_); rintro e w12 ⟨rfl, hp6⟩; have hS6 := hp6.c; have HC12 := Lib.hid hp6; clear hp6))
    obtain ⟨ha12, hb12⟩ := HAP.out w12 HC12.out.cs.b
    have HA12 := Lib.hid ha12
    have HA13 := Lib.hid hb12
    clear ha12 hb12
    go_wp2_with (first
      | (at_builtin; refine wpList_append_lotE _ rfl (.tmp 90) (.tmp 91) 22 rfl w12.heap.size 5 i0 _ 1 1 Tryd.underlying22 hi0 hzz0 hzz1 hzz2 rfl (by decide) (.slice (some ⟨w12.heap.size, 0, none⟩) 0 0) 0 [] rfl HA12.out A1 n1 c1 (zs.map encB) rfl HZ1.out HL1.out HA13.out (encB_one _) (by unfold maxLen; omega) (by omega) (by simp) ?_; intro v13 w13 ho13 hg13 hb13; obtain ⟨hb13', hz13⟩ := HW7.out _ _ hg13; have HO13 := Lib.hid ho13; have HB13 := Lib.hid hb13'; have HNY13 := Lib.hid (HNY.out w13 (HC12.out.cs.b.trans (hb13'.mono HC12.out.cs.b.size))).2; clear ho13 hg13 hb13 hb13')
      | (at_builtin; refine wpList_append_lotE _ rfl (.tmp 92) (.tmp 93) 22 rfl w12.heap.size 5 i0 _ 1 1 Tryd.underlying22 hi0 hzz0 hzz1 hzz2 rfl (by decide) v13 (0 + n1) ([] ++ zs.map encB) rfl HO13.out A3 n3 c3 (xs.map encB) rfl HZ3.out HL3.out HNY13.out (encB_one _) (by unfold maxLen; omega) (by omega) hz13 ?_; intro v14 w14 ho14 hg14 hb14; obtain ⟨A14, c14, rfl, hk14, hs14⟩ := HB8.out w14 _ v14 xs n1 n3 HQ3.out ho14; have hb14' := HW8.out _ _ _ _ _ _ HO13.out HB13.out hg14; have HC14 := Lib.hid (HC12.out.cs.past hb14'); have HS14 := Lib.hid hs14; clear ho14 hg14 hb14 hs14 hb14')
      | (go_at_call 12; (with_reducible refine (HO3.out w14 A14 c14 _ _ hk14 HS14.out HC14.out).mono ?_); rintro e w15 ⟨rfl, vr15, er15, hc15⟩; have HC15 := Lib.hid hc15; clear hc15))
    have hS15 := HC15.out.c
    have hSd15 := (HC15.out.past (Below.refl _ _).drew).c
    have HCD15 := Lib.hid (HC15.out.past (Below.refl _ _).drew)
    clear hS hSd
    go_region_held3 (fun W => W.cell? ⟨w14.heap.size, 1, none⟩ = some (.int .i64 s1.state) ∧ W.cell? ⟨w14.heap.size, 2, none⟩ = some (.int .i64 (heldP s1)))
      (first | exact hS15 | exact hSd15 | exact hS16 | exact hS17 | assumption)
      (first
        | (go_at_call 15; (with_reducible refine (HU1.out _ _ _ _ _ _ (by first | exact HC15.out | exact HCD15.out)).mono ?_); rintro e w16 ⟨rfl, hp16⟩; have hS16 := hp16.c; have HC16 := Lib.hid hp16; clear hp16)
        | (go_at_call 16; (with_reducible refine (HH1.out _ _ _ _ _ _ HC16.out).mono ?_); rintro e w17 ⟨rfl, hp17⟩; have hS17 := hp17.c; have HC17 := Lib.hid hp17; clear hp17))
    go_wp2
    go_ret
    exact ⟨rfl, HC17.out.b⟩
  · have hk0 := hk
    clear hk0
    go_region_held3 (fun W => W.cell? ⟨w8.heap.size, 0, none⟩ = some (.slice B9 N k9) ∧ W.cell? ⟨w8.heap.size, 1, none⟩ = some (.int .i64 s2.state) ∧ W.cell? ⟨w9.heap.size, 0, none⟩ = some (.slice B10 N0 k10))
      (first | exact hS | exact hSd | exact hS5 | exact hS6 | assumption)
      (first
        | (go_at_call 13; (with_reducible refine (HZ.out _ _ _ _ _ _ _ _ _ _ hl9 (by first | exact HC10.out | exact HCD.out) _ _ _ (by have h9 := HEE.out; omega) (if_neg hk).symm).mono ?_); rintro e w11 ⟨rfl, hp5⟩; have hS5 := hp5.c; have HC11 := Lib.hid hp5; clear hp5)
        | (go_at_call 15; (with_reducible refine (HU.out _ _ _ _ _ _ _ _ HC11.out).mono ?_); rintro e w12 ⟨rfl, hp6⟩; have hS6 := hp6.c; have HC12 := Lib.hid hp6; clear hp6))
    obtain ⟨ha12, hb12⟩ := HAP.out w12 HC12.out.cs.b
    have HA12 := Lib.hid ha12
    have HA13 := Lib.hid hb12
    clear ha12 hb12
    go_wp2_with (first
      | (at_builtin; refine wpList_append_lotE _ rfl (.tmp 90) (.tmp 91) 22 rfl w12.heap.size 5 i0 _ 1 1 Tryd.underlying22 hi0 hzz0 hzz1 hzz2 rfl (by decide) (.slice (some ⟨w12.heap.size, 0, none⟩) 0 0) 0 [] rfl HA12.out A1 n1 c1 (zs.map encB) rfl HZ1.out HL1.out HA13.out (encB_one _) (by unfold maxLen; omega) (by omega) (by simp) ?_; intro v13 w13 ho13 hg13 hb13; obtain ⟨hb13', hz13⟩ := HW7.out _ _ hg13; have HO13 := Lib.hid ho13; have HB13 := Lib.hid hb13'; have HNY13 := Lib.hid (HNY.out w13 (HC12.out.cs.b.trans (hb13'.mono HC12.out.cs.b.size))).2; clear ho13 hg13 hb13 hb13')
      | (at_builtin; refine wpList_append_lotE _ rfl (.tmp 92) (.tmp 93) 22 rfl w12.heap.size 5 i0 _ 1 1 Tryd.underlying22 hi0 hzz0 hzz1 hzz2 rfl (by decide) v13 (0 + n1) ([] ++ zs.map encB) rfl HO13.out A3 n3 c3 (xs.map encB) rfl HZ3.out HL3.out HNY13.out (encB_one _) (by unfold maxLen; omega) (by omega) hz13 ?_; intro v14 w14 ho14 hg14 hb14; obtain ⟨A14, c14, rfl, hk14, hs14⟩ := HB8.out w14 _ v14 xs n1 n3 HQ3.out ho14; have hb14' := HW8.out _ _ _ _ _ _ HO13.out HB13.out hg14; have HC14 := Lib.hid (HC12.out.cs.past hb14'); have HS14 := Lib.hid hs14; clear ho14 hg14 hb14 hs14 hb14')
      | (go_at_call 12; (with_reducible refine (HO3.out w14 A14 c14 _ _ hk14 HS14.out HC14.out).mono ?_); rintro e w15 ⟨rfl, vr15, er15, hc15⟩; have HC15 := Lib.hid hc15; clear hc15))
    have hS15 := HC15.out.c
    have hSd15 := (HC15.out.past (Below.refl _ _).drew).c
    have HCD15 := Lib.hid (HC15.out.past (Below.refl _ _).drew)
    clear hS hSd
    go_region_held3 (fun W => W.cell? ⟨w14.heap.size, 1, none⟩ = some (.int .i64 s1.state) ∧ W.cell? ⟨w14.heap.size, 2, none⟩ = some (.int .i64 (heldP s1)))
      (first | exact hS15 | exact hSd15 | exact hS16 | exact hS17 | assumption)
      (first
        | (go_at_call 15; (with_reducible refine (HU1.out _ _ _ _ _ _ (by first | exact HC15.out | exact HCD15.out)).mono ?_); rintro e w16 ⟨rfl, hp16⟩; have hS16 := hp16.c; have HC16 := Lib.hid hp16; clear hp16)
        | (go_at_call 16; (with_reducible refine (HH1.out _ _ _ _ _ _ HC16.out).mono ?_); rintro e w17 ⟨rfl, hp17⟩; have hS17 := hp17.c; have HC17 := Lib.hid hp17; clear hp17))
    go_wp2
    go_ret
    exact ⟨rfl, HC17.out.b⟩
theorem parseCopies_law (A1 A2 A3 : Option Addr) (zs ys xs : List Nat) (n1 c1 n2 c2 n3 c3 : Nat) (hn1 : n1 = zs.length) (hc1 : n1 ≤ c1) (hn2 : n2 = ys.length) (hc2 : n2 ≤ c2) (hn3 : n3 = xs.length) (hc3 : n3 ≤ c3) (hz1 : A1 = none → n1 = 0 ∧ c1 = 0) (hz2 : A2 = none → n2 = 0 ∧ c2 = 0) (hz3 : A3 = none → n3 = 0 ∧ c3 = 0)
    (w : World) (hG : GW w) (hR1 : BS w w.heap.size A1 zs) (hR2 : BS w w.heap.size A2 ys) (hR3 : BS w w.heap.size A3 xs) :
    Calls Tryd.prog 8 #[.slice A1 n1 c1, .slice A2 n2 c2, .slice A3 n3 c3] w fun e w' => e = .returned (.bool true) ∧ Below w.heap.size w w' := by
  by_cases h1 : n1 ≤ 200
  · by_cases h2 : n2 ≤ 100
    · by_cases h3 : n3 ≤ 100
      · exact parseCopies_main A1 A2 A3 zs ys xs n1 c1 n2 c2 n3 c3 hn1 hc1 hn2 hc2 hn3 hc3 hz1 hz2 hz3 h1 h2 h3 w hG hR1 hR2 hR3
      · have HA := Lib.hid (awake_any w hG)
        have m1 : ¬ (200 : Int) < n1 := by omega
        have m2 : ¬ (100 : Int) < n2 := by omega
        have m3 : (100 : Int) < n3 := by omega
        clear hn1 hn2 hn3 hR1 hR2 hR3 hG hz1 hz2 hz3
        go_enter Tryd.func8, Tryd.ntmps8
        go_wp2_with (go_at_call 10; (with_reducible refine HA.out.mono ?_); rintro e w1 ⟨rfl, hb1⟩; have HB1 := Lib.hid hb1; clear hb1)
        go_ret
        exact ⟨rfl, HB1.out⟩
    · have HA := Lib.hid (awake_any w hG)
      have m1 : ¬ (200 : Int) < n1 := by omega
      have m2 : (100 : Int) < n2 := by omega
      clear hn1 hn2 hn3 hR1 hR2 hR3 hG hz1 hz2 hz3
      go_enter Tryd.func8, Tryd.ntmps8
      go_wp2_with (go_at_call 10; (with_reducible refine HA.out.mono ?_); rintro e w1 ⟨rfl, hb1⟩; have HB1 := Lib.hid hb1; clear hb1)
      go_ret
      exact ⟨rfl, HB1.out⟩
  · have HA := Lib.hid (awake_any w hG)
    have m1 : (200 : Int) < n1 := by omega
    clear hn1 hn2 hn3 hR1 hR2 hR3 hG hz1 hz2 hz3
    go_enter Tryd.func8, Tryd.ntmps8
    go_wp2_with (go_at_call 10; (with_reducible refine HA.out.mono ?_); rintro e w1 ⟨rfl, hb1⟩; have HB1 := Lib.hid hb1; clear hb1)
    go_ret
    exact ⟨rfl, HB1.out⟩

end Go.Proofs.YtmmkcfjncpcabaaDoor

namespace Go.Proofs.YtmmkcfjncpcabaaDoor
open Go.ChangeShapes Go.WideShapes Go.ChangeAt Go.WideMaps Go.WideElems Go.RowKit

/-- A slice of bytes that came in; a nil one is empty. -/
theorem open_bytesN {H : Type} {enc : TypeId × Value → H} {W : World} {A : Option Addr} {n c : Nat} {d : DataW H} {p : List MemPlace} (h : DataW.Trod enc Tryd.prog W 0 (fun _ => true) true 22 (.slice A n c) d p) :
    ∃ xs : List Nat, n = xs.length ∧ n ≤ c ∧ c ≤ 9223372036854775807 ∧ BS W W.heap.size A xs ∧ (A = none → n = 0 ∧ c = 0) := by
  obtain ⟨xs, h1, h2, h3, h4⟩ := open_bytes h
  refine ⟨xs, h1, h2, h3, h4, fun hA => ?_⟩
  subst hA
  obtain ⟨fuel, hf⟩ := h
  rcases open_ints Tryd.underlying22 Tryd.underlying5 c5 hf with ⟨hcs, _⟩ | ⟨_, _, _, _, hcs, _⟩
  · have e : Value.slice none n c = .slice none 0 0 := by simpa [Value.cells] using hcs
    injection e with _ e2 e3
    exact ⟨e2, e3⟩
  · simp [Value.cells] at hcs

end Go.Proofs.YtmmkcfjncpcabaaDoor
