/- What the listed variables, and the world's shape, give parse's laws (Ul's text, and Pl's wrap). -/
import Derived.Test.YtmmkcfjncpcabaaDoorRows
import Derived.Test.YtmmkcfjncpcabaaDoorQx
import Derived.ProofKit
import Derived.LaidMore
import Derived.OpenShut
import Derived.Stop.Joined
import Derived.PinnedBridge
import Derived.Lib.LaidU8
import Derived.HandedShaped
import Derived.Shelf.Vars
import Derived.Deep.Matrix
import Derived.Test.YtmmkcfjncpcabaaDoorQk
namespace Go.Proofs.YtmmkcfjncpcabaaDoor
open Go.ChangeShapes Go.WideShapes Go.ChangeAt Go.WideMaps Go.WideElems Go.RowKit

theorem own : ownKnob Tryd.prog.godebug = none := by kernel_rfl
theorem laidOut : laidOutB Tryd.prog = true := by kernel_rfl
theorem c5 : Tryd.prog.cellsOf 5 = 1 := by kernel_rfl
theorem c256 : Tryd.prog.cellsOf 110 = 256 := by kernel_rfl
theorem cPair : Tryd.prog.cellsOf 112 = 2 := by kernel_rfl
theorem gFirst : Tryd.prog.globalNamed "unicode/utf8.first" = some 0 := by kernel_rfl
theorem gAccept : Tryd.prog.globalNamed "unicode/utf8.acceptRanges" = some 1 := by kernel_rfl
theorem tFirst : (Tryd.prog.globals[0]?).map (·.type) = some 110 := by kernel_rfl
theorem tAccept : (Tryd.prog.globals[1]?).map (·.type) = some 113 := by kernel_rfl
def laidU : List (String × DataW Unit) := [("unicode/utf8.acceptRanges", Rows.laid_unicode_utf8_acceptRanges), ("unicode/utf8.first", Rows.laid_unicode_utf8_first)]
theorem firstD : Rows.laid_unicode_utf8_first = Lib.firstData := Pinned.utf8First_eq
theorem acceptD : (Rows.laid_unicode_utf8_acceptRanges : DataW Unit) = Lib.acceptData := by kernel_rfl
theorem ut_size {W : World} (h : UT W) : max 0 1 + 1 ≤ W.heap.size := by have h1 := h.2.1; have h2 := h.2.2; omega
theorem var_lt {P : Program} {w : World} {n : String} {g : Nat} {cs : Array Value} (hg : P.globalNamed n = some g) (h : w.var? P n = some cs) : g < w.heap.size := by
  simp only [World.var?, hg, Option.bind_some] at h
  rcases Nat.lt_or_ge g w.heap.size with hl | hl
  · exact hl
  · rw [Array.getElem?_eq_none hl] at h
    simp at h

/-- WHAT THE CONDITION GIVES THE WALKS. -/
theorem ut_of_laid {W : World} (h : laidMetH Tryd.prog laidU W) : UT W := by
  rw [MakeChecks.laidMetH_plain _ _ _ (by kernel_rfl)] at h
  obtain ⟨ps, ⟨g0, t0, cs0, f0, p0, q0, hg0, ht0, hv0, hd0, ⟨g1, t1, cs1, f1, p1, q1, hg1, ht1, hv1, hd1, _, _⟩, _⟩, _, _⟩ := h
  obtain rfl := Option.some.inj (gAccept.symm.trans hg0)
  obtain rfl := Option.some.inj (gFirst.symm.trans hg1)
  obtain rfl := Option.some.inj (tAccept.symm.trans ht0)
  obtain rfl := Option.some.inj (tFirst.symm.trans ht1)
  rw [acceptD] at hd0
  rw [firstD] at hd1
  refine ⟨⟨fun c hc => ?_, fun i hi => ?_⟩, var_lt hg1 hv1, var_lt hg0 hv0⟩
  · have hcs := Lib.cells_of_tab Tryd.underlying110 Tryd.underlying5 c5 c256 hd1
    rw [World.var?_cell hg1 hv1 c, ← Array.getElem?_toList, hcs]
    simp [Lib.firstTab, hc]
  · obtain ⟨fuel', d, q, hdi, he⟩ := Lib.array_elem Tryd.underlying113 hd0 i hi
    simp only [List.getElem?_map, List.getElem?_range hi, Option.map_some, Option.some.injEq] at hdi
    subst hdi
    rw [cPair] at he
    have hcs := Lib.ints_of_struct Tryd.underlying112 (fun j f hj => by
      match j, hj with
      | 0, hj => simp at hj; subst hj; exact ⟨Tryd.underlying5, rfl, c5⟩
      | 1, hj => simp at hj; subst hj; exact ⟨Tryd.underlying5, rfl, c5⟩
      | j + 2, hj => simp at hj) (by rw [cPair]; rfl) he
    have e0 := congrArg (·[0]?) hcs
    have e1 := congrArg (·[1]?) hcs
    simp only [List.getElem?_take, List.getElem?_drop] at e0 e1
    constructor
    · rw [World.var?_cell hg0 hv0 (2 * i), ← Array.getElem?_toList]
      simpa [Nat.mul_comm] using e0
    · rw [World.var?_cell hg0 hv0 (2 * i + 1), ← Array.getElem?_toList]
      simpa [Nat.mul_comm] using e1

/-- A start that fits: the door's own heap, and the pinned table in its place. -/
theorem startU_met (os : Os) (args : Array Value) : laidMetH Tryd.prog laidU (((World.doorLaid Tryd.prog 400 os).setRow 0 ((List.range 256).map fun i => Value.int .u8 (Lib.firstT i : Nat)).toArray).forCall (fun _ _ => 0) ⟨#[], args, []⟩).memory :=
  laidMetH_of_parts3 (fuel := 8) (laidMet_of_run' 8 (by kernel_rfl) (by kernel_rfl)) (by kernel_rfl) (by kernel_rfl)

theorem lt_of_cell {w : World} {b o : Nat} {v : Value} (h : w.cell? ⟨b, o, none⟩ = some v) : b < w.heap.size := by
  rcases Nat.lt_or_ge b w.heap.size with hl | hl
  · exact hl
  · simp [World.cell?, Array.getElem?_eq_none hl] at h
/-- A slice of bytes that came in. -/
theorem open_bytes {H : Type} {enc : TypeId × Value → H} {W : World} {A : Option Addr} {n c : Nat} {d : DataW H} {p : List MemPlace} (h : DataW.Trod enc Tryd.prog W 0 (fun _ => true) true 22 (.slice A n c) d p) :
    ∃ xs : List Nat, n = xs.length ∧ n ≤ c ∧ c ≤ 9223372036854775807 ∧ BS W W.heap.size A xs := by
  obtain ⟨fuel, hf⟩ := h
  rcases open_ints Tryd.underlying22 Tryd.underlying5 c5 hf with ⟨hcs, _⟩ | ⟨a, len, cap, zs, hcs, _, hl, hm, hz, _, hcell, hw⟩
  · have e : Value.slice A n c = .slice none 0 0 := by simpa [Value.cells] using hcs
    injection e with e1 e2 e3
    subst e1; subst e2; subst e3
    exact ⟨[], rfl, Nat.le_refl _, by omega, by simp, fun h => absurd rfl h⟩
  · have e : Value.slice A n c = .slice (some a) len cap := by simpa [Value.cells] using hcs
    injection e with e1 e2 e3
    subst e1; subst e2; subst e3
    have hzl : zs.length = c := by simpa using hz
    have hb : ∀ z ∈ zs, 0 ≤ z ∧ z < 256 := fun z hz => by have := bounds_u8 (hw z hz); omega
    refine ⟨(zs.take n).map Int.toNat, by simp; omega, hl, by unfold maxLen at hm; omega, fun x hx => ?_, fun hne => ?_⟩
    · obtain ⟨z, hz', rfl⟩ := List.mem_map.1 hx
      have := hb z (List.mem_of_mem_take hz')
      omega
    · have hpos : 0 < zs.length := by
        rcases Nat.eq_zero_or_pos zs.length with h0 | h0
        · rw [List.eq_nil_of_length_eq_zero h0] at hne; simp at hne
        · exact h0
      obtain ⟨b, off, rfl, hc⟩ := ints_at hcell hpos
      refine ⟨b, off, rfl, lt_of_cell (hc 0 hpos), fun k hk => ?_⟩
      have hk' : k < n ∧ k < zs.length := by simp at hk; omega
      have hz' := hb zs[k] (List.getElem_mem hk'.2)
      rw [hc k (by omega), List.getElem?_map, List.getElem?_take, if_pos hk'.1, List.getElem?_eq_getElem hk'.2]
      simp only [Option.map_some, Option.getD_some]
      rw [Int.toNat_of_nonneg hz'.1, List.getD_eq_getElem?_getD, List.getElem?_eq_getElem hk'.2]
      rfl

theorem ml_of_shape {W : World} (h : W.ShapedOpen Tryd.prog) : ML W :=
  cell_of_shapedOpen_int (t := 3) (zero := #[.int .i64 0]) h (of_decide_eq_true (by kernel_rfl)) (by kernel_rfl) rfl (by kernel_rfl) (by kernel_rfl) Tryd.underlying3
/-- The plain wrap with what the row lists, and the world's shape kept. -/
theorem returnsIn_and_shaped {H : Type} {enc : TypeId × Value → H} {a : Assume} {C : Checked} {os : Os} {f : FuncId} {fn : Func} {s : ChangeSpec} {conds : List PathCond} {apart fresh handsOn again : Bool} {X : World → Array Value → Prop}
    (hX : ∀ (w w' : World) (args : Array Value), w.heap = w'.heap → X w args → X w' args)
    (own : ownKnob C.prog.godebug = none) (started : os.Started) (noInit : C.prog.inits.idxOf? f = none) (hfn : C.prog.funcs[f]? = some fn)
    (witness : ∃ (w : World) (tape : Tape) (i : Input), w.os = os ∧ (w.forCall tape i).Shaped C.prog ∧ i.vars = [] ∧ Input.okWide C.prog (w.forCall tape i) .any w.heap.size f i ∧
      ((s.pre enc C.prog fn conds apart (w.forCall tape i).memory i.args ∧ X (w.forCall tape i).memory i.args) ∧ sizedMet enc C.prog fn (OpenSpec.ofChange s) apart (w.forCall tape i).memory i.args) ∧ a.holds C.prog (lone (Frame.enter C.prog f i.args .normal) [] (w.forCall tape i)))
    (contract : ∀ (W : World) (base : Nat) (args : Array Value) (ds gs : List (DataW H)) (before : List MemPlace),
      (∀ (j : Nat) t v, fn.params[j]? = some t → args[j]? = some v → Value.okWide C.prog W .any base t v) →
      DataW.Whole enc C.prog fn.params.toList s.vars apart W args.toList ds gs before →
      conds.all (PathCond.test C.prog ⟨fn.params.toList, ds, s.plain.varTypes C.prog, gs⟩) = true →
      (DataW.weightsEach C.prog (fn.params.toList ++ s.plain.varTypes C.prog) (ds ++ gs)).all (· ≤ reachBytes) = true → X W args → W.ShapedOpen C.prog →
      a.holds C.prog (lone (Frame.enter C.prog f args .normal) [] W) →
      Calls C.prog f args W fun e W' => ∃ v, e = .returned v ∧ s.post enc C.prog fn apart fresh handsOn again W args v W') :
    ReturnsInHanded a C os f .any (fun w args => (s.pre enc C.prog fn conds apart w args ∧ X w args) ∧ sizedMet enc C.prog fn (OpenSpec.ofChange s) apart w args) (s.post enc C.prog fn apart fresh handsOn again) := by
  refine returnsInHanded_of_calls own started noInit witness ?_
  intro w tape i _ hsh _ hok hpre hholds
  obtain ⟨_, _, _, fn', hfn', _, _, _, _, hval⟩ := hok
  obtain rfl : fn' = fn := Option.some.inj (hfn'.symm.trans hfn)
  obtain ⟨⟨⟨ds, gs, before, hw, hc⟩, hx⟩, hz⟩ := hpre
  have hw' := DataW.Whole.of_heap (w' := w.forCall tape i) (by rfl) hw
  refine (contract (w.forCall tape i) w.heap.size i.args ds gs before hval hw' hc (hz.weights hw) (hX _ _ _ (by rfl) hx) hsh hholds).mono fun e W' ⟨v, he, hp⟩ => ?_
  subst he
  exact ChangeSpec.post_blind hp
theorem gw_of {W : World} (h : laidMetH Tryd.prog laidU W) (hs : W.ShapedOpen Tryd.prog) : GW W := ⟨ut_of_laid h, ml_of_shape hs⟩

end Go.Proofs.YtmmkcfjncpcabaaDoor

namespace Go.Proofs.YtmmkcfjncpcabaaDoor
open Go.RowKit

/-- A parser at D and a row of events beside it, that it does not turn. -/
def PG1 (w0 W : World) (D : Nat) (s : PM) (v : Value) (got : List PE) : Prop :=
  ∃ a cs, MI W D s [] a ∧ GT W D ∧ Below w0.heap.size w0 W ∧ w0.heap.size ≤ D ∧ GH s ∧ QS s ∧ W.ownsRow (D + 1) 41 8 v got.length cs ∧ EvL W got cs ∧ ∀ g, some g = v.ownBlock → ¬ Mut D a g
theorem PG1.new {w0 W : World} {D : Nat} {s : PM} (h : C1 w0 W D s) : PG1 w0 W D s (.slice none 0 0) [] := by
  obtain ⟨a, hm⟩ := h.mi
  exact ⟨a, [], hm, h.gt, h.b, h.l, h.gh, h.qs, World.ownsRow_nil _ _ _ _, rfl, fun g e => by cases e⟩
theorem PG1.b {w0 W : World} {D : Nat} {s : PM} {v : Value} {got : List PE} (h : PG1 w0 W D s v got) : Below w0.heap.size w0 W := by
  obtain ⟨a, cs, _, _, h1, _⟩ := h
  exact h1
theorem PG1.past {w0 W W' : World} {D : Nat} {s : PM} {v : Value} {got : List PE} (h : PG1 w0 W D s v got) (hb : Below W.heap.size W W') : PG1 w0 W' D s v got := by
  obtain ⟨a, cs, h1, h2, h3, h4, h5, h6, h7, h8, h9⟩ := h
  exact ⟨a, cs, (h1.past hb).1, h2.past (lt_of_block h1.blk) hb, h3.trans (hb.mono h3.size), h4, h5, h6, own_past h7 hb, EvL.kept (NT.below hb) _ _ h8, h9⟩
theorem PG1.slice {w0 W : World} {D : Nat} {s : PM} {v : Value} {got : List PE} (h : PG1 w0 W D s v got) : ∃ A c, v = .slice A got.length c ∧ EvS W A got := by
  obtain ⟨a, cs, h1, h2, h3, h4, h5, h6, h7, h8, h9⟩ := h
  obtain ⟨A, c, hv, _⟩ := own_formE h7
  subst hv
  exact ⟨A, c, rfl, EvS.of_own h7 rfl h8⟩
/-- Step, beside the row: what it tells lies apart. -/
def TG1 (w0 W : World) (D : Nat) (s : PM) (v : Value) (got : List PE) (A : Option Addr) (es : List PE) (c : Nat) : Prop :=
  ∃ csg cs, PG1 w0 W D s v got ∧ W.ownsRow (D + 1) 41 8 v got.length csg ∧ EvL W got csg ∧ W.ownsRow (D + 1) 41 8 (.slice A es.length c) es.length cs ∧ EvL W es cs ∧ D + 1 ≤ W.heap.size
theorem step_pg {w0 W : World} {D : Nat} {s : PM} {v : Value} {got : List PE} (h : PG1 w0 W D s v got) (x : UInt8) : Calls Tryd.prog 17 #[.pointer (some ⟨D, 0, none⟩), .int .u8 x.toNat] W fun e w' => ∃ A c, e = .returned (.slice A (takeP s x).2.length c) ∧ TG1 w0 w' D (takeP s x).1 v got A (takeP s x).2 c := by
  obtain ⟨a, cs, h1, h2, h3, h4, h5, h6, h7, h8, h9⟩ := h
  refine (step1_mi h1 h2 h5.gq x).mono fun e w' ⟨v', he, cs', a', A', c', hv', hm', hf, ho, hl, hn, hg⟩ => ?_
  subst hv'
  have hb := hf.below h1
  have hlt := lt_of_block hm'.blk
  refine ⟨A', c', he, cs, cs', ⟨a', cs, hm', h2.below (lt_of_block h1.blk) hb, h3.trans (hb.mono h4), h4, h5.take x, h6.take h5.gq x, own_keeps h7 hf.kb (fun g e => h9 g e), EvL.kept (h1.nt hf.kb) _ _ h8, fun g e hi => (hf.mu g hi).elim (h9 g e) (fun hs => by have := (own_lt' h7 e).2; omega)⟩, own_keeps h7 hf.kb (fun g e => h9 g e), EvL.kept (h1.nt hf.kb) _ _ h8, ho, hl, hlt⟩
theorem TG1.put {w0 W w2 : World} {D : Nat} {s : PM} {v v2 : Value} {got es : List PE} {csg cs : List Value} (h : PG1 w0 W D s v got) (ho : W.ownsRow (D + 1) 41 8 v got.length csg) (hl : EvL W got csg) (hl' : EvL W es cs) (hg2 : W.grownBy w2 v.ownBlock) (hb2 : v2.ownBlock = v.ownBlock ∨ v2.ownBlock = some W.heap.size)
    (ho2 : w2.ownsRow (D + 1) 41 8 v2 (got.length + es.length) (csg ++ cs)) : PG1 w0 w2 D s v2 (got ++ es) := by
  obtain ⟨a, _, h1, h2, h3, h4, h5, h6, _, _, h9⟩ := h
  have hkb : KB (fun i => some i = v.ownBlock) W w2 := ⟨hg2.os, hg2.tape, hg2.output, hg2.size, fun i hi hn => hg2.block i hi hn⟩
  have hnt : NT W w2 := fun k cur hk => hg2.block k (by rcases hk with hk | hk <;> exact lt_of_block hk) (fun e => by
    obtain ⟨cu, hc⟩ := own_type ho e.symm
    rcases hk with hk | hk <;> (rw [hc] at hk; cases hk))
  have hD := lt_of_block h1.blk
  have hb : Below D W w2 := ⟨hg2.os, hg2.tape, hg2.output, hg2.size, fun i hi => hg2.block i (by omega) (fun e => by have := (own_lt' ho e).1; omega)⟩
  refine ⟨a, csg ++ cs, h1.other hkb (fun i hi => h9 i hi), h2.below hD hb, h3.trans (hb.mono h4), h4, h5, h6, by rw [List.length_append]; exact ho2, EvL.app _ _ _ _ (EvL.kept hnt _ _ hl) (EvL.kept hnt _ _ hl'), fun g e => ?_⟩
  rcases hb2 with hb2 | hb2
  · exact h9 g (e.trans hb2)
  · have hgz : g = W.heap.size := Option.some.inj (e.trans hb2)
    exact fun hi => by have := (h1.low hi).2; omega
theorem state_pg {w0 W : World} {D : Nat} {s : PM} {v : Value} {got : List PE} (h : PG1 w0 W D s v got) : Calls Tryd.prog 15 #[.pointer (some ⟨D, 0, none⟩)] W (fun e w' => e = .returned (.int .i64 s.state) ∧ Below W.heap.size W w') := by
  obtain ⟨a, cs, h1, _⟩ := h
  exact state_mi h1
theorem held_pg {w0 W : World} {D : Nat} {s : PM} {v : Value} {got : List PE} (h : PG1 w0 W D s v got) : Calls Tryd.prog 16 #[.pointer (some ⟨D, 0, none⟩)] W (fun e w' => e = .returned (.int .i64 (heldP s : Nat)) ∧ Below W.heap.size W w') := by
  obtain ⟨a, cs, h1, _, _, _, h5, _⟩ := h
  exact held_gh h1 h5
/-- A run's answers. -/
def RV (W : World) (E : Nat) (v : Value) (es : List PE) (st : Int) (hd : Nat) : Prop := ∃ cs A n c m, RBl W E v st hd A n c m ∧ W.ownsRow (E + 1) 41 8 v es.length cs ∧ EvL W es cs
theorem RV.past {W W' : World} {E : Nat} {v : Value} {es : List PE} {st : Int} {hd : Nat} (h : RV W E v es st hd) (hb : Below W.heap.size W W') : RV W' E v es st hd := by
  obtain ⟨cs, A, n, c, m, h1, h2, h3⟩ := h
  exact ⟨cs, A, n, c, m, (hb.block E (lt_of_block h1)).trans h1, own_past h2 hb, EvL.kept (NT.below hb) _ _ h3⟩
theorem RV.c {W : World} {E : Nat} {v : Value} {es : List PE} {st : Int} {hd : Nat} (h : RV W E v es st hd) : W.cell? ⟨E, 0, none⟩ = some v ∧ W.cell? ⟨E, 1, none⟩ = some (.int .i64 st) ∧ W.cell? ⟨E, 2, none⟩ = some (.int .i64 hd) := by
  obtain ⟨cs, A, n, c, m, h1, _⟩ := h
  exact ⟨(cell_of_row _ _ 0 _ _ _ h1).trans rfl, (cell_of_row _ _ 1 _ _ _ h1).trans rfl, (cell_of_row _ _ 2 _ _ _ h1).trans rfl⟩
theorem RV.of {W : World} {E : Nat} {A : Option Addr} {c : Nat} {zs : List Nat} {m : Nat} {es : List PE} {st : Int} {hd : Nat} (h : RM W E A c zs m es st hd) : ∃ B k, RV W E (.slice B es.length k) es st hd ∧ EvS W B es := by
  obtain ⟨v, cs, h1, h2, h3⟩ := h.row
  obtain ⟨B, k, hv, _⟩ := own_formE h2
  subst hv
  exact ⟨B, k, ⟨cs, A, zs.length, c, m, h1, h2, h3⟩, EvS.of_own h2 rfl h3⟩
/-- Both. -/
def PGR (w0 W : World) (D E : Nat) (s : PM) (v : Value) (got : List PE) (v' : Value) (es : List PE) (st : Int) (hd : Nat) : Prop := PG1 w0 W D s v got ∧ RV W E v' es st hd
theorem PGR.past {w0 W W' : World} {D E : Nat} {s : PM} {v v' : Value} {got es : List PE} {st : Int} {hd : Nat} (h : PGR w0 W D E s v got v' es st hd) (hb : Below W.heap.size W W') : PGR w0 W' D E s v got v' es st hd := ⟨h.1.past hb, h.2.past hb⟩
theorem PGR.drew {w0 W : World} {D E : Nat} {s : PM} {v v' : Value} {got es : List PE} {st : Int} {hd : Nat} (h : PGR w0 W D E s v got v' es st hd) : PGR w0 W.drew D E s v got v' es st hd := h.past (Below.refl _ _).drew
theorem PGR.c {w0 W : World} {D E : Nat} {s : PM} {v v' : Value} {got es : List PE} {st : Int} {hd : Nat} (h : PGR w0 W D E s v got v' es st hd) : W.cell? ⟨E, 0, none⟩ = some v' ∧ W.cell? ⟨E, 1, none⟩ = some (.int .i64 st) ∧ W.cell? ⟨E, 2, none⟩ = some (.int .i64 hd) := h.2.c
theorem PGR.g {w0 W : World} {D E : Nat} {s : PM} {v v' : Value} {got es : List PE} {st : Int} {hd : Nat} (h : PGR w0 W D E s v got v' es st hd) : PG1 w0 W D s v got := h.1
/-- The parser behind the first bytes, and its events. -/
def SK (k : Nat) (zs : List Nat) (o : Nat) : PM := (takesP (newP k) (u8s (zs.take o))).1
def GK (k : Nat) (zs : List Nat) (o : Nat) : List PE := (takesP (newP k) (u8s (zs.take o))).2
theorem SK_succ (k : Nat) (zs : List Nat) (o : Nat) (h : o < zs.length) : SK k zs (o + 1) = (takeP (SK k zs o) (UInt8.ofNat (zs[o]?.getD 0))).1 ∧ GK k zs (o + 1) = GK k zs o ++ (takeP (SK k zs o) (UInt8.ofNat (zs[o]?.getD 0))).2 := by
  unfold SK GK
  rw [take_snocN zs o h, u8s_cat]
  show (takesP _ (u8s (zs.take o) ++ [UInt8.ofNat _])).1 = _ ∧ (takesP _ (u8s (zs.take o) ++ [UInt8.ofNat _])).2 = _
  rw [takesP_snoc]
  exact ⟨rfl, rfl⟩
theorem GK_len (k : Nat) (zs : List Nat) (o : Nat) : (GK k zs o).length ≤ 5 * zs.length := by
  have := takes_len k (zs.take o)
  rw [List.length_take] at this
  unfold GK
  omega
set_option maxRecDepth 100000 in
set_option maxHeartbeats 8000000 in
theorem parseSteps_main (A : Option Addr) (zs : List Nat) (n c h : Nat) (hn : n = zs.length) (hc : n ≤ c) (hh : h < 256) (hn2 : n ≤ 60) (w : World) (hG : GW w) (hR : BS w w.heap.size A zs) :
    Calls Tryd.prog 4 #[.slice A n c, .int .u8 h] w fun e w' => e = .returned (.bool true) ∧ Below w.heap.size w w' := by
  obtain ⟨i0, hi0, hz0, hz1, hz2⟩ := info_parts Tryd.infoEvent
  have HA : Hid (∀ W, Below w.heap.size w W → Calls Tryd.prog 10 #[] W fun e w' => e = .returned (.bool true) ∧ Below w.heap.size w w') := Lib.hid fun W hW => (awake_any W (hG.below hW)).mono fun _ _ hp => ⟨hp.1, hW.trans (hp.2.mono hW.size)⟩
  have HM : Hid (∀ W (z : Int), z = (h : Int) → Below w.heap.size w W → Calls Tryd.prog 11 #[.int .u8 z] W fun e w' => e = .returned (.pointer (some ⟨W.heap.size, 0, none⟩)) ∧ PG1 w w' W.heap.size (SK (h + 1) zs 0) (.slice none 0 0) (GK (h + 1) zs 0)) := Lib.hid fun W z hz hW => by rw [hz]; exact (made_any h (by omega) W).mono fun _ _ hp => ⟨hp.1, PG1.new (C1.new hG hW hp.2.1 hp.2.2 (by omega))⟩
  have HSP : Hid (∀ W D k v, k < n → PG1 w W D (SK (h + 1) zs k) v (GK (h + 1) zs k) → Calls Tryd.prog 17 #[.pointer (some ⟨D, 0, none⟩), .int .u8 (zs[k]?.getD 0 : Nat)] W fun e w' => ∃ A c es, e = .returned (.slice A es.length c) ∧ GK (h + 1) zs (k + 1) = GK (h + 1) zs k ++ es ∧ TG1 w w' D (SK (h + 1) zs (k + 1)) v (GK (h + 1) zs k) A es c) := Lib.hid fun W D k v hk hp => by
    have hk' : k < zs.length := by omega
    have hb8 : zs[k]?.getD 0 < 256 := by rw [List.getElem?_eq_getElem hk']; exact hR.1 _ (List.getElem_mem hk')
    obtain ⟨e1, e2⟩ := SK_succ (h + 1) zs k hk'
    have hst := step_pg hp (UInt8.ofNat (zs[k]?.getD 0))
    rw [u8n _ hb8] at hst
    refine hst.mono fun e w' ⟨A', c', he, ht⟩ => ⟨A', c', _, he, e2, ?_⟩
    rw [e1]
    exact ht
  have HLN : Hid (∀ o, (GK (h + 1) zs o).length ≤ 300) := Lib.hid fun o => Nat.le_trans (GK_len (h + 1) zs o) (by omega)
  have HOF : Hid (∀ W D k v (m : Int) b off, A = some ⟨b, off, none⟩ → m = (h : Int) + 1 → k ≤ n → PG1 w W D (SK (h + 1) zs k) v (GK (h + 1) zs k) → Calls Tryd.prog 12 #[.slice (some ⟨b, off, none⟩) k c, .int .i64 m] W fun e w' => e = .returned (.pointer (some ⟨W.heap.size, 0, none⟩)) ∧ ∃ B j, PGR w w' D W.heap.size (SK (h + 1) zs k) v (GK (h + 1) zs k) (.slice B (GK (h + 1) zs k).length j) (GK (h + 1) zs k) (SK (h + 1) zs k).state (heldP (SK (h + 1) zs k))) := Lib.hid fun W D k v m b off hA hm hk hp => by
    subst hA
    rw [hm, show (h : Int) + 1 = ((h + 1 : Nat) : Int) by push_cast; rfl]
    have hlk : k = (zs.take k).length := by rw [List.length_take]; omega
    refine (of_any (some ⟨b, off, none⟩) (zs.take k) k c (h + 1) hlk (by omega) (by omega) W (((hR.take k).below hp.b).more hp.b.size)).mono fun e w' ⟨he, hM, hb⟩ => ⟨he, ?_⟩
    have hout := parse_of (h + 1) (zs.take k) (fun z hz => hR.1 z (List.mem_of_mem_take hz))
    rw [← hout] at hM
    obtain ⟨B, j, hv, _⟩ := RV.of hM
    exact ⟨B, j, hp.past hb, hv⟩
  have HZ : Hid (∀ W D E k v B j, PGR w W D E (SK (h + 1) zs k) v (GK (h + 1) zs k) (.slice B (GK (h + 1) zs k).length j) (GK (h + 1) zs k) (SK (h + 1) zs k).state (heldP (SK (h + 1) zs k)) → Calls Tryd.prog 13 #[v, .slice B (GK (h + 1) zs k).length j] W fun e w' => e = .returned (.bool true) ∧ PGR w w' D E (SK (h + 1) zs k) v (GK (h + 1) zs k) (.slice B (GK (h + 1) zs k).length j) (GK (h + 1) zs k) (SK (h + 1) zs k).state (heldP (SK (h + 1) zs k))) := Lib.hid fun W D E k v B j hp => by
    obtain ⟨A1, c1, hv, h1⟩ := hp.1.slice
    subst hv
    have h2 : EvS W B (GK (h + 1) zs k) := by
      obtain ⟨cs, _, _, _, _, _, g2, g3⟩ := hp.2
      exact EvS.of_own g2 rfl g3
    exact (same4_any A1 B _ _ _ _ c1 j rfl rfl (by have := HLN.out k; omega) W h1 h2 (nb_takes _ _).small).mono fun _ _ hq => ⟨by rw [hq.1]; simp, hp.past hq.2⟩
  have HU : Hid (∀ W D E k v v', PGR w W D E (SK (h + 1) zs k) v (GK (h + 1) zs k) v' (GK (h + 1) zs k) (SK (h + 1) zs k).state (heldP (SK (h + 1) zs k)) → Calls Tryd.prog 15 #[.pointer (some ⟨D, 0, none⟩)] W (fun e w' => e = .returned (.int .i64 (SK (h + 1) zs k).state) ∧ PGR w w' D E (SK (h + 1) zs k) v (GK (h + 1) zs k) v' (GK (h + 1) zs k) (SK (h + 1) zs k).state (heldP (SK (h + 1) zs k)))) := Lib.hid fun W D E k v v' hp => (state_pg hp.1).mono fun _ _ hq => ⟨hq.1, hp.past hq.2⟩
  have HH : Hid (∀ W D E k v v', PGR w W D E (SK (h + 1) zs k) v (GK (h + 1) zs k) v' (GK (h + 1) zs k) (SK (h + 1) zs k).state (heldP (SK (h + 1) zs k)) → Calls Tryd.prog 16 #[.pointer (some ⟨D, 0, none⟩)] W (fun e w' => e = .returned (.int .i64 (heldP (SK (h + 1) zs k) : Nat)) ∧ PGR w w' D E (SK (h + 1) zs k) v (GK (h + 1) zs k) v' (GK (h + 1) zs k) (SK (h + 1) zs k).state (heldP (SK (h + 1) zs k)))) := Lib.hid fun W D E k v v' hp => (held_pg hp.1).mono fun _ _ hq => ⟨hq.1, hp.past hq.2⟩
  have n1 : ¬ (60 : Int) < n := by omega
  have HL := Lib.hid hn
  have HR := Lib.hid hR
  clear hn hR hG
  go_enter Tryd.func4, Tryd.ntmps4
  go_wp2_with (first
    | (go_at_call 10; (with_reducible refine (HA.out _ (Below.refl _ _)).mono ?_); rintro e w1 ⟨rfl, hb1⟩; have HB1 := Lib.hid hb1; clear hb1)
    | (go_at_call 11; (with_reducible refine (HM.out w1 _ rfl HB1.out).mono ?_); rintro e w2 ⟨rfl, hm2'⟩; have HC2 := Lib.hid hm2'; clear hm2'))
  go_loopw [6, 7] (fun vg i wr => ∃ (k : Nat) (vo : Value), vo = vg ∧ k ≤ n ∧ i = .int .i64 k ∧ Hid (PG1 w wr w1.heap.size (SK (h + 1) zs k) vo (GK (h + 1) zs k))) (fun _ i _ => n - (intOf i).toNat)
  case atStart => exact ⟨0, _, rfl, Nat.zero_le _, rfl, HC2⟩
  case round =>
    obtain ⟨k, vo, rfl, hk, rfl, HCo⟩ := hrel
    by_cases hlt : k < n
    · obtain ⟨b, off, hA, hbl, hcl⟩ := HR.out.2 (by rintro rfl; have := HL.out; simp at this; omega)
      have hck := (HCo.out.b.cell (p := ⟨b, off + k, none⟩) hbl).trans (hcl k (by rw [← HL.out]; exact hlt))
      have hki : (k : Int) < n := by omega
      have hkc : (k : Int) + 1 ≤ c := by omega
      have HP := Lib.hid (HSP.out wr w1.heap.size k vo hlt HCo.out)
      have HAA := Lib.hid hA
      rw [hA]
      have HLK := HLN.out (k + 1)
      have HOK : Hid (∀ W v m, m = (h : Int) + 1 → PG1 w W w1.heap.size (SK (h + 1) zs (k + 1)) v (GK (h + 1) zs (k + 1)) → Calls Tryd.prog 12 #[.slice (some ⟨b, off, none⟩) (k + 1) c, .int .i64 m] W fun e w' => e = .returned (.pointer (some ⟨W.heap.size, 0, none⟩)) ∧ ∃ B j, PGR w w' w1.heap.size W.heap.size (SK (h + 1) zs (k + 1)) v (GK (h + 1) zs (k + 1)) (.slice B (GK (h + 1) zs (k + 1)).length j) (GK (h + 1) zs (k + 1)) (SK (h + 1) zs (k + 1)).state (heldP (SK (h + 1) zs (k + 1)))) := Lib.hid fun W v m hm hp => HOF.out W _ (k + 1) v m b off HAA.out hm hlt hp
      clear hcl hbl hA HSP
      generalize zs[k]?.getD 0 = z at *
      go_wp2_with (first
        | (go_at_call 17; (with_reducible refine HP.out.mono ?_); rintro e w4 ⟨A4, c4, es4, rfl, hg4, csg4, cs4, hr0, hr1, hr2, hr3, hr4, hr5⟩; have HG4 := Lib.hid hg4; have HR0 := Lib.hid hr0; have HR1 := Lib.hid hr1; have HR2 := Lib.hid hr2; have HR3 := Lib.hid hr3; have HR4 := Lib.hid hr4; have HR5 := Lib.hid hr5; clear hg4 hr0 hr1 hr2 hr3 hr4 hr5)
        | (at_builtin; go_must (refine wpList_append_lotE _ rfl (.tmp 27) (.tmp 33) 29 rfl (w1.heap.size + 1) 41 i0 _ 8 80 Tryd.underlying29 hi0 hz0 hz1 hz2 rfl (by decide) vo (GK (h + 1) zs k).length csg4 rfl HR1.out A4 es4.length c4 cs4 rfl ((own_formE HR3.out).elim fun _ h => h.elim fun _ h => by have h1 := h.1; have h2 := h.2.1; injection h1 with h3 _ h4; rw [h3, h4]; exact h2) HR3.out.1 (own_newsE HR3.out) (EvL.one _ _ HR4.out) (by have h1 := HLK; rw [HG4.out, List.length_append] at h1; unfold maxLen; omega) (by have h1 := HLK; rw [HG4.out, List.length_append] at h1; omega) HR5.out ?_; intro v5 w5 ho5 hg5 hb5; have HC5 : Hid (PG1 w w5 w1.heap.size (SK (h + 1) zs (k + 1)) v5 (GK (h + 1) zs (k + 1))) := Lib.hid (by rw [HG4.out]; exact TG1.put HR0.out HR1.out HR2.out HR4.out hg5 hb5 ho5); clear ho5 hg5 hb5))
        | (go_at_call 12; (with_reducible refine (HOK.out w5 v5 _ rfl HC5.out).mono ?_); rintro e w6 ⟨rfl, B6, j6, hp6⟩; have HC6 := Lib.hid hp6; clear hp6))
      have hS := HC6.out.c
      have hSd := HC6.out.drew.c
      generalize hs' : SK (h + 1) zs (k + 1) = T at *
      generalize hg' : GK (h + 1) zs (k + 1) = es at *
      have HZ1 : Hid (∀ W v B j, PGR w W w1.heap.size w5.heap.size T v es (.slice B es.length j) es T.state (heldP T) → Calls Tryd.prog 13 #[v, .slice B es.length j] W fun e w' => e = .returned (.bool true) ∧ PGR w w' w1.heap.size w5.heap.size T v es (.slice B es.length j) es T.state (heldP T)) := Lib.hid fun W v B j hp => by rw [← hs', ← hg'] at hp ⊢; exact HZ.out W _ _ (k + 1) v B j hp
      have HU1 : Hid (∀ W v v', PGR w W w1.heap.size w5.heap.size T v es v' es T.state (heldP T) → Calls Tryd.prog 15 #[.pointer (some ⟨w1.heap.size, 0, none⟩)] W (fun e w' => e = .returned (.int .i64 T.state) ∧ PGR w w' w1.heap.size w5.heap.size T v es v' es T.state (heldP T))) := Lib.hid fun W v v' hp => by rw [← hs', ← hg'] at hp ⊢; exact HU.out W _ _ (k + 1) v v' hp
      have HH1 : Hid (∀ W v v', PGR w W w1.heap.size w5.heap.size T v es v' es T.state (heldP T) → Calls Tryd.prog 16 #[.pointer (some ⟨w1.heap.size, 0, none⟩)] W (fun e w' => e = .returned (.int .i64 (heldP T : Nat)) ∧ PGR w w' w1.heap.size w5.heap.size T v es v' es T.state (heldP T))) := Lib.hid fun W v v' hp => by rw [← hs', ← hg'] at hp ⊢; exact HH.out W _ _ (k + 1) v v' hp
      have HT1 := Lib.hid hs'
      have HT2 := Lib.hid hg'
      clear hs' hg' HZ HU HH HOK HOF
      go_region_held3 (fun W => W.cell? ⟨w5.heap.size, 0, none⟩ = some (.slice B6 es.length j6) ∧ W.cell? ⟨w5.heap.size, 1, none⟩ = some (.int .i64 T.state) ∧ W.cell? ⟨w5.heap.size, 2, none⟩ = some (.int .i64 (heldP T)))
        (first | exact hS | exact hSd | exact hS4 | exact hS5 | exact hS6 | exact hS7 | assumption)
        (first
          | (go_at_call 13; (with_reducible refine (HZ1.out _ _ _ _ (by first | exact HC6.out | exact HC6.out.drew)).mono ?_); rintro e w7 ⟨rfl, hp5⟩; have hS5 := hp5.c; have HC7 := Lib.hid hp5; clear hp5)
          | (go_at_call 15; (with_reducible refine (HU1.out _ _ _ HC7.out).mono ?_); rintro e w8 ⟨rfl, hp6⟩; have hS6 := hp6.c; have HC8 := Lib.hid hp6; clear hp6)
          | (go_at_call 16; (with_reducible refine (HH1.out _ _ _ HC8.out).mono ?_); rintro e w9 ⟨rfl, hp7⟩; have hS7 := hp7.c; have HC9 := Lib.hid hp7; clear hp7))
      go_wp2
      exact ⟨⟨k + 1, v5, rfl, hlt, by go_num, Lib.hid (by rw [HT1.out, HT2.out]; exact HC9.out.g)⟩, by simp [intOf]; omega⟩
    · have hki : ¬ (k : Int) < n := by omega
      go_wp2
      go_ret
      exact ⟨rfl, HCo.out.b⟩
set_option maxRecDepth 100000 in
set_option maxHeartbeats 8000000 in
theorem parseSteps_law (A : Option Addr) (zs : List Nat) (n c h : Nat) (hn : n = zs.length) (hc : n ≤ c) (hh : h < 256) (w : World) (hG : GW w) (hR : BS w w.heap.size A zs) :
    Calls Tryd.prog 4 #[.slice A n c, .int .u8 h] w fun e w' => e = .returned (.bool true) ∧ Below w.heap.size w w' := by
  by_cases h1 : n ≤ 60
  · exact parseSteps_main A zs n c h hn hc hh h1 w hG hR
  · have HA := Lib.hid (awake_any w hG)
    have n1 : (60 : Int) < n := by omega
    clear hn hR hG
    go_enter Tryd.func4, Tryd.ntmps4
    go_wp2_with (go_at_call 10; (with_reducible refine HA.out.mono ?_); rintro e w1 ⟨rfl, hb1⟩; have HB1 := Lib.hid hb1; clear hb1)
    go_ret
    exact ⟨rfl, HB1.out⟩
theorem parseSteps_lawI (A : Option Addr) (zs : List Nat) (n c : Nat) (h : Int) (hn : n = zs.length) (hc : n ≤ c) (h0 : 0 ≤ h) (hh : h ≤ 255) (w : World) (hG : GW w) (hR : BS w w.heap.size A zs) :
    Calls Tryd.prog 4 #[.slice A n c, .int .u8 h] w fun e w' => e = .returned (.bool true) ∧ Below w.heap.size w w' := by
  obtain ⟨k, rfl⟩ : ∃ k : Nat, h = k := ⟨h.toNat, by omega⟩
  exact parseSteps_law A zs n c k hn hc (by omega) w hG hR

end Go.Proofs.YtmmkcfjncpcabaaDoor
