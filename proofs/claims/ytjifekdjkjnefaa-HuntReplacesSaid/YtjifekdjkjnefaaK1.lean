/- The walk of a hunt's Next. -/
import Derived.Test.YtjifekdjkjnefaaH8
import Derived.Test.YtjifekdjkjnefaaH9
namespace Go.Proofs.Ytjifekdjkjnefaa
open Go.RowKit

theorem results_cell_tmp {P : Program} {fn : Func} {p u : Tmp} {ty : TypeId} (h : fn.results = #[.cell p ty, .tmp u]) (tmps : Array Value) (w : World) (g : Nat) (t : TypeId) (cs : Array Value) (fr : Nat × Nat) (d : TypeDesc)
    (hp : tmps.getD p undef = .pointer (some ⟨g, 0, none⟩)) (hg : w.heap[g]? = some (.cells cs t fr))
    (hu : P.underlying ty = some d) (hd : (match d with | .struct _ | .array _ _ => true | _ => false) = true) (hi : (P.info? ty).map (·.size) = some cs.size) :
    (results fn tmps).run P w = .ok (.tuple #[.agg cs, tmps.getD u undef]) w := by
  have hp' : tmps[p]?.getD undef = .pointer (some ⟨g, 0, none⟩) := by simpa using hp
  simp [results, h, hp', asAddr, run_loadVar_row w g t ty cs fr d hg hu hd hi]
/-- A hunt's hits that are still to come. -/
def HQ (w0 : World) (b : Nat) (R : List (Nat × Nat)) (W : World) : Prop := ∃ E, QM w0 b E W ∧ HP E.length 0 (ndE E) ∧ Rel (ndE E) R ∧ E.length ≤ 1000
theorem HQ.past {w0 W W' : World} {b : Nat} {R : List (Nat × Nat)} (h : HQ w0 b R W) (hb : Below W.heap.size W W') : HQ w0 b R W' := by
  obtain ⟨E, h1, h2, h3, h4⟩ := h
  exact ⟨E, h1.past hb, h2, h3, h4⟩
/-- A box of a hit is turned. -/
theorem QM.hit {w0 V V' : World} {b R : Nat} {E : List Ent} {cur : Array Value} (h : QM w0 b E V) (hR : V.heap[R]? = some (.cells cur 33 (0, 0))) (hw : w0.heap.size ≤ R) (hos : V'.os = V.os) (ht : V'.tape = V.tape) (ho : V'.output = V.output) (hs : V'.heap.size = V.heap.size) (hh : ∀ k, k ≠ R → V'.heap[k]? = V.heap[k]?) : QM w0 b E V' := by
  obtain ⟨A, c, h1, h2⟩ := h.box
  have hbR : b ≠ R := fun e => by
    subst e
    rw [h1] at hR
    simp only [Option.some.injEq, Obj.cells.injEq] at hR
    exact absurd hR.2.1 (by decide)
  refine ⟨⟨hos.trans h.below.os, ht.trans h.below.tape, ho.trans h.below.output, by rw [hs]; exact h.below.size, fun k hk => (hh k (by omega)).trans (h.below.block k hk)⟩, h.le, ⟨A, c, (hh b hbR).trans h1, ?_⟩, fun e he => ?_⟩
  · rcases h2 with ⟨hl, h3⟩
    refine ⟨hl, ?_⟩
    rcases h3 with h3 | ⟨g, cap, cu, h3, h4, h5, h6⟩
    · exact .inl h3
    · refine .inr ⟨g, cap, cu, h3, h4, ?_, h6⟩
      rw [hh g (fun e => ?_)]
      · exact h5
      · subst e
        rw [h5] at hR
        simp only [Option.some.injEq, Obj.cells.injEq] at hR
        exact absurd hR.2.1 (by decide)
  · obtain ⟨g, off, c, cu, e1, e2, e3, e4⟩ := h.pr e he
    refine ⟨g, off, c, cu, e1, e2, ?_, e4⟩
    rw [hh g (fun e => ?_)]
    · exact e3
    · subst e
      rw [e3] at hR
      simp only [Option.some.injEq, Obj.cells.injEq] at hR
      exact absurd hR.2.1 (by decide)
theorem cons_of {l : List Nat} (h : l ≠ []) : ∃ a t, l = a :: t := by
  cases l with
  | nil => exact absurd rfl h
  | cons a t => exact ⟨a, t, rfl⟩
theorem QM.notown {w0 W V : World} {b k : Nat} {E : List Ent} (h : QM w0 b E W) (hb : Below W.heap.size W V) (hk : W.heap.size ≤ k) : ¬ QO b V k := by
  obtain ⟨A, c, h1, h2⟩ := h.box
  have hbs := (Array.getElem?_eq_some_iff.1 h1).1
  rintro (e | ⟨v, hv, hvk⟩)
  · omega
  · rw [(hb.block b hbs).trans h1] at hv
    simp only [Option.some.injEq, Obj.cells.injEq, Array.mk.injEq, List.cons.injEq, and_true] at hv
    subst hv
    have := (h2.lt k hvk).2
    omega
/-- What Next leaves. -/
def NextPost (w0 : World) (b : Nat) (R : List (Nat × Nat)) (W w' : World) : Prop := HQ w0 b R w' ∧ HF W w'
set_option maxRecDepth 100000 in
set_option maxHeartbeats 4000000 in
theorem next_none (w0 : World) (b : Nat) (W : World) (h : HQ w0 b [] W) :
    Calls Try.prog 16 #[.pointer (some ⟨b, 0, none⟩)] W fun e w' => e = .returned (.tuple #[.agg #[.int .i64 0, .int .i64 0], .bool false]) ∧ NextPost w0 b [] W w' := by
  have hW := h
  obtain ⟨E, h1, h2, h3, h4⟩ := h
  have hE : E.length = 0 := by
    rcases Nat.eq_zero_or_pos E.length with e | e
    · exact e
    · obtain ⟨g, off, c, cu, e1, e2, e3, e4, e5, e6⟩ := h1.ent e
      obtain ⟨a, t, e7⟩ := cons_of e5
      have hm : enA E 0 ∈ E := enA_mem e
      have := h3.mem.2 ⟨(enA E 0).1, List.mem_map_of_mem hm, rfl, by rw [e7]; exact List.mem_cons_self⟩
      simp at this
  obtain ⟨A, c, hb1, _⟩ := h1.box
  rw [hE] at hb1
  have hc : W.cell? ⟨b, 0, none⟩ = some (.slice A 0 c) := row_cell hb1 0 _ rfl
  have hbs := (Array.getElem?_eq_some_iff.1 hb1).1
  have hbA : ∀ o, Below W.heap.size W (W.alloc o) := fun o => belA (Below.refl _ _) o
  have cA : ∀ o, (W.alloc o).cell? ⟨b, 0, none⟩ = some (.slice A 0 c) := fun o => ((hbA o).cell (p := ⟨b, 0, none⟩) hbs).trans hc
  have HFIN : Hid (∀ o, NextPost w0 b [] W (W.alloc o)) := Lib.hid fun o => ⟨hW.past (hbA o), HF.below (hbA o)⟩
  have HROW : Hid ((W.alloc (.cells #[.int .i64 0, .int .i64 0] 33)).heap[W.heap.size]? = some (.cells #[.int .i64 0, .int .i64 0] 33 (0, 0))) := Lib.hid (heap_alloc_new W _)
  have HLN := Lib.hid (fun V => qlen_any A 0 c V)
  clear h1 h2 h3 h4 hb1 hW
  go_enter Try.func16, Try.ntmps16
  go_wp2_with (go_at_call 26; (with_reducible refine (HLN.out _).mono ?_); rintro x w2 ⟨rfl, rfl⟩)
  (try simp only [Exit.inBlock, Exit.then])
  refine bodyPost_ret (results_cell_tmp rfl _ _ W.heap.size _ _ _ _ rfl HROW.out Try.underlying33 rfl sizeHit) rfl ?_
  exact ⟨rfl, HFIN.out _⟩
/-- What a walk knows of a needle that came off. -/
structure OFF (W : World) (g off c n a : Nat) : Prop where
  lt : g < W.heap.size
  cell : W.cell? ⟨g, off, none⟩ = some (.int .i64 (a : Nat))
  pos : 0 < n
  le : n ≤ c
theorem ndE_top {E : List Ent} (h : 0 < E.length) : ndAt (ndE E) 0 = (enA E 0).1 := ndE_at E 0 h
set_option maxRecDepth 100000 in
set_option maxHeartbeats 8000000 in
theorem next_some (w0 : World) (b a i : Nat) (R : List (Nat × Nat)) (W : World) (h : HQ w0 b ((a, i) :: R) W) :
    Calls Try.prog 16 #[.pointer (some ⟨b, 0, none⟩)] W fun e w' => e = .returned (.tuple #[.agg #[.int .i64 (a : Nat), .int .i64 (i : Nat)], .bool true]) ∧ NextPost w0 b R W w' := by
  obtain ⟨E, h1, h2, h3, h4⟩ := h
  have hE : 0 < E.length := by
    rcases Nat.eq_zero_or_pos E.length with e | e
    · have e2 := List.eq_nil_of_length_eq_zero e
      subst e2
      have := h3.empty
      simp at this
    · exact e
  obtain ⟨n, hn⟩ : ∃ n, E.length = n + 1 := ⟨E.length - 1, by omega⟩
  have hm : enA E 0 ∈ E := enA_mem hE
  obtain ⟨g, off, c, cu, e1, e2, e3, e4, e5, e6⟩ := h1.ent hE
  obtain ⟨a', t, e7⟩ := cons_of e5
  obtain ⟨R', hR'⟩ := h3.top (by rw [ndE_len]; exact h2) (by rw [ndE_len]; exact hE) (i := (enA E 0).1.1) (a := a') (t := t) (by rw [ndE_top hE, ← e7])
  injection hR' with e8 e9
  injection e8 with e10 e11
  subst e9
  rw [← e10] at e7
  have htop : (enA E 0).1 = (i, a :: t) := by rw [e11, ← e7]
  clear e10 e11 a'
  have hc1 : (enA E 0).1.1 = i := by rw [htop]
  have hc2 : (enA E 0).1.2.length = t.length + 1 := by rw [htop]; rfl
  rw [hc2] at e1 e2
  have hca : cu[off]? = some (.int .i64 (a : Nat)) := by
    have := e4 0 (by rw [hc2]; omega)
    rw [htop] at this
    exact this
  have hct : ∀ k, k < t.length → cu[off + 1 + k]? = some (.int .i64 (t[k]?.getD 0 : Nat)) := fun k hk => by
    have := e4 (k + 1) (by rw [hc2]; omega)
    rw [htop, show off + (k + 1) = off + 1 + k by omega] at this
    exact this
  obtain ⟨A, cc, hb1, _⟩ := h1.box
  rw [hn] at hb1
  have hcb : W.cell? ⟨b, 0, none⟩ = some (.slice A (n + 1) cc) := row_cell hb1 0 _ rfl
  have hbs := (Array.getElem?_eq_some_iff.1 hb1).1
  obtain ⟨W1, hW1⟩ : ∃ W1, W1 = W.alloc (.cells #[.int .i64 0, .int .i64 0] 33) := ⟨_, rfl⟩
  have hbA : Below W.heap.size W W1 := by rw [hW1]; exact belA (Below.refl _ _) _
  have cA : W1.cell? ⟨b, 0, none⟩ = some (.slice A (n + 1) cc) := (hbA.cell (p := ⟨b, 0, none⟩) hbs).trans hcb
  have hR1 : W1.heap[W.heap.size]? = some (.cells #[.int .i64 0, .int .i64 0] 33 (0, 0)) := by rw [hW1]; exact heap_alloc_new W _
  have HLN := Lib.hid (fun V => qlen_any A (n + 1) cc V)
  have HPOP : Hid (Calls Try.prog 27 #[.iface 53 (.pointer (some ⟨b, 0, none⟩))] W1 fun e w' => e = .returned (.iface 51 (.agg #[.int .i64 i, .slice (some ⟨g, off, none⟩) (t.length + 1) c])) ∧ HF W1 w' ∧ ∃ E', QM w0 b E' w' ∧ E'.length = n ∧ HP n 0 (ndE E') ∧ SameN (ndE E' ++ [(i, a :: t)]) (ndE E)) := Lib.hid <| by
    have := pop_any w0 b n E hn (by omega) (by rw [← hn]; exact h2) W1 (h1.past hbA)
    rw [hc1, e1, htop] at this
    exact this
  have HG : Hid (∀ V, HF W1 V → V.heap[g]? = some (.cells cu 3 (0, 0)) ∧ V.heap[W.heap.size]? = some (.cells #[.int .i64 0, .int .i64 0] 33 (0, 0))) := Lib.hid fun V hV => ⟨hV.keep _ _ _ _ ((hbA.block g (Array.getElem?_eq_some_iff.1 e3).1).trans e3) (by decide) (by decide), hV.keep _ _ _ _ hR1 (by decide) (by decide)⟩
  have HOFF : Hid (∀ V, HF W1 V → V.cell? ⟨g, off, none⟩ = some (.int .i64 (a : Nat)) ∧ g < V.heap.size ∧ W.heap.size < V.heap.size) := Lib.hid fun V hV => by
    obtain ⟨k1, k2⟩ := HG.out V hV
    exact ⟨row_cell k1 off _ hca, (Array.getElem?_eq_some_iff.1 k1).1, (Array.getElem?_eq_some_iff.1 k2).1⟩
  have HPR : Hid (∀ V, HF W1 V → t ≠ [] → PR V ((i, t), .slice (some ⟨g, off + 1, none⟩) t.length (c - 1))) := Lib.hid fun V hV ht => ⟨g, off + 1, c - 1, cu, rfl, by show t.length ≤ c - 1; omega, (HG.out V hV).1, hct, ht, by show i < 1000; rw [← hc1]; exact e6⟩
  have HHF : Hid (∀ V, HF W1 V → HF W V) := Lib.hid fun V hV => (HF.below hbA).trans hV
  have HREL : Hid (∀ E' E2, SameN (ndE E' ++ [(i, a :: t)]) (ndE E) → ((t = [] ∧ SameN (ndE E2) (ndE E')) ∨ SameN (ndE E2) (ndE E' ++ [(i, t)])) → Rel (ndE E2) R) := Lib.hid fun E' E2 k1 k2 => h3.next k1 k2
  -- the end: a hit is laid into the result's box
  have HEND : Hid (∀ V V' E2 o o', QM w0 b E2 V → HF W1 V → E2.length ≤ n + 1 → HP E2.length 0 (ndE E2) → Rel (ndE E2) R → V' = ((V.alloc o).alloc o').drew → (V'.cell? ⟨W.heap.size, 0, none⟩ = some (.int .i64 0) ∧ V'.cell? ⟨W.heap.size, 1, none⟩ = some (.int .i64 0) ∧ V'.frozen? ⟨W.heap.size, 0, none⟩ = false ∧ V'.frozen? ⟨W.heap.size, 1, none⟩ = false) ∧ ((V'.setCell ⟨W.heap.size, 0, none⟩ (.int .i64 (a : Nat))).setCell ⟨W.heap.size, 1, none⟩ (.int .i64 (i : Nat))).heap[W.heap.size]? = some (.cells #[.int .i64 (a : Nat), .int .i64 (i : Nat)] 33 (0, 0)) ∧ NextPost w0 b R W ((V'.setCell ⟨W.heap.size, 0, none⟩ (.int .i64 (a : Nat))).setCell ⟨W.heap.size, 1, none⟩ (.int .i64 (i : Nat)))) := Lib.hid fun V V' E2 o o' q1 q2 q3 q4 q5 q6 => by
    have hbV : Below V.heap.size V V' := by rw [q6]; exact (belA (belA (Below.refl _ _) _) _).drew
    have hRV := (hbV.block _ (Array.getElem?_eq_some_iff.1 (HG.out V q2).2).1).trans (HG.out V q2).2
    have g1 := row_set hRV 0 (.int .i64 (a : Nat))
    have g2 := row_set g1 1 (.int .i64 (i : Nat))
    have hqV := q1.past hbV
    have hfV := q2.trans (HF.below hbV)
    refine ⟨⟨row_cell hRV 0 _ rfl, row_cell hRV 1 _ rfl, row_free hRV 0, row_free hRV 1⟩, by rw [g2]; rfl, ⟨E2, ?_, q4, q5, by omega⟩, ?_⟩
    · exact hqV.hit hRV (by have := h1.below.size; exact this) rfl rfl rfl (by rw [World.size_setCell, World.size_setCell]) (fun k hk => (Below.heap_setCell _ _ _ k hk).trans (Below.heap_setCell _ _ _ k hk))
    · refine ⟨?_, fun k cur ty fz hk k1 k2 => ?_⟩
      · rw [World.size_setCell, World.size_setCell]
        exact Nat.le_trans hbA.size hfV.size
      · have hkl := (Array.getElem?_eq_some_iff.1 hk).1
        rw [Below.heap_setCell _ _ _ k (by show k ≠ W.heap.size; omega), Below.heap_setCell _ _ _ k (by show k ≠ W.heap.size; omega)]
        exact hfV.keep k cur ty fz ((hbA.block k hkl).trans hk) k1 k2
  have HHIT : Hid (∀ V, HF W1 V → Calls Try.prog 29 #[.agg #[.int .i64 i, .slice (some ⟨g, off, none⟩) (t.length + 1) c]] V fun e w' => e = .returned (.agg #[.int .i64 a, .int .i64 i]) ∧ ((V.alloc (.cells #[.int .i64 i, .slice (some ⟨g, off, none⟩) (t.length + 1) c] 51)).alloc (.cells #[.int .i64 a, .int .i64 i] 33)).drew = w') := Lib.hid fun V hV => hit_any i a g off (t.length + 1) c (by omega) V (HOFF.out V hV).1 (HOFF.out V hV).2.1
  have HPUSH : Hid (∀ V E', QM w0 b E' V → E'.length = n → HP n 0 (ndE E') → HF W1 V → t ≠ [] → Calls Try.prog 28 #[.iface 53 (.pointer (some ⟨b, 0, none⟩)), .iface 51 (.agg #[.int .i64 i, .slice (some ⟨g, off + 1, none⟩) t.length (c - 1)])] V fun x w' => x = .returned (.tuple #[]) ∧ HF V w' ∧ FrO (QO b) V w' ∧ ∃ E2, QM w0 b E2 w' ∧ E2.length = n + 1 ∧ HP (n + 1) 0 (ndE E2) ∧ SameN (ndE E2) (ndE E' ++ [(i, t)])) := Lib.hid fun V E' q1 q2 q3 q4 ht => push_any w0 b n E' ((i, t), .slice (some ⟨g, off + 1, none⟩) t.length (c - 1)) q2 (by omega) q3 V q1 (HPR.out V q4 ht)
  have hta := fun w => ta_nd (.agg #[.int .i64 i, .slice (some ⟨g, off, none⟩) (t.length + 1) c]) w
  have HW1 := Lib.hid hW1
  have HLC : Hid (t.length + 1 ≤ c) := Lib.hid e2
  clear h1 h2 h3 h4 e1 e2 e3 e4 e5 e6 e7 hca hct hb1 hcb hbA hR1 htop hc1 hc2 hW1 hE hm
  have hn0 : ((n : Int) + 1 == 0) = false := by simp; omega
  rw [HW1.out] at cA
  obtain ⟨m, hm⟩ : ∃ m, m = t.length := ⟨_, rfl⟩
  rw [← hm] at HPOP HHIT HPUSH hta HLC
  have HT0 : Hid (m = 0 → t = []) := Lib.hid fun e => List.eq_nil_of_length_eq_zero (by omega)
  have HT1 : Hid (m ≠ 0 → t ≠ []) := Lib.hid fun e e2 => e (by rw [hm, e2]; rfl)
  clear hm
  by_cases ht : m = 0
  · have HTT := Lib.hid (HT0.out ht)
    have hmi : ¬ (1 : Int) < (m : Int) + 1 := by omega
    clear ht HT0 HT1 HPUSH
    go_enter Try.func16, Try.ntmps16
    go_wp2_with (first
      | (go_at_call 26; (with_reducible refine (HLN.out _).mono ?_); rintro x w2 ⟨rfl, rfl⟩)
      | (go_at_call 27; rw [← HW1.out]; (with_reducible refine HPOP.out.mono ?_); rintro x w1 ⟨rfl, hf1, E1, q1, l1, p1, s1⟩; have HF1 := Lib.hid hf1; have HQ1 := Lib.hid (And.intro q1 (And.intro l1 (And.intro p1 s1))); clear hf1 q1 l1 p1 s1 HPOP)
      | (go_at_call 29; (with_reducible refine (HHIT.out _ (HF1.out.trans (HF.below (belA (Below.refl _ _) _)))).mono ?_); rintro x w6 ⟨rfl, hw6⟩; obtain ⟨⟨r0, r1, r2, r3⟩, hrow, hpost⟩ := HEND.out _ w6 E1 _ _ (HQ1.out.1.past (belA (Below.refl _ _) _)) (HF1.out.trans (HF.below (belA (Below.refl _ _) _))) (by have := HQ1.out.2.1; omega) (by rw [HQ1.out.2.1]; exact HQ1.out.2.2.1) (HREL.out E1 E1 HQ1.out.2.2.2 (.inl ⟨HTT.out, SameN.refl _⟩)) hw6.symm; have HROW := Lib.hid hrow; have HPOST := Lib.hid hpost; clear hw6 hrow hpost HEND HHIT))
    (try simp only [Exit.inBlock, Exit.then])
    refine bodyPost_ret (results_cell_tmp rfl _ _ W.heap.size _ _ _ _ rfl HROW.out Try.underlying33 rfl sizeHit) rfl ?_
    exact ⟨rfl, HPOST.out⟩
  · have HTT := Lib.hid (HT1.out ht)
    have hmi : (1 : Int) < (m : Int) + 1 := by omega
    have hm1 : (1 : Int) ≤ (m : Int) + 1 := by omega
    have hcn : ¬ c = 1 := by have := HLC.out; omega
    clear ht HT0 HT1
    go_enter Try.func16, Try.ntmps16
    go_wp2_with (first
      | (go_at_call 26; (with_reducible refine (HLN.out _).mono ?_); rintro x w2 ⟨rfl, rfl⟩)
      | (go_at_call 27; rw [← HW1.out]; (with_reducible refine HPOP.out.mono ?_); rintro x w1 ⟨rfl, hf1, E1, q1, l1, p1, s1⟩; have HF1 := Lib.hid hf1; have HQ1 := Lib.hid (And.intro q1 (And.intro l1 (And.intro p1 s1))); clear hf1 q1 l1 p1 s1 HPOP))
    obtain ⟨V, hV⟩ : ∃ V, V = w1.alloc (.cells #[.int .i64 i, .slice (some ⟨g, off, none⟩) (m + 1) c] 51) := ⟨_, rfl⟩
    rw [← hV]
    have hbV : Below w1.heap.size w1 V := by rw [hV]; exact belA (Below.refl _ _) _
    have hBV : V.heap[w1.heap.size]? = some (.cells #[.int .i64 i, .slice (some ⟨g, off, none⟩) (m + 1) c] 51 (0, 0)) := by rw [hV]; exact heap_alloc_new w1 _
    have hbs := (Array.getElem?_eq_some_iff.1 hBV).1
    have HFV := Lib.hid (HF1.out.trans (HF.below hbV))
    have HQV := Lib.hid (HQ1.out.1.past hbV)
    have HNO := Lib.hid (HQ1.out.1.notown hbV (Nat.le_refl _))
    have HBX : Hid (∀ W' : World, W'.heap[w1.heap.size]? = some (.cells #[.int .i64 i, .slice (some ⟨g, off, none⟩) (m + 1) c] 51 (0, 0)) → W'.cell? ⟨w1.heap.size, 0, none⟩ = some (.int .i64 i) ∧ W'.cell? ⟨w1.heap.size, 1, none⟩ = some (.slice (some ⟨g, off, none⟩) (m + 1) c)) := Lib.hid fun W' h => ⟨row_cell h 0 _ rfl, row_cell h 1 _ rfl⟩
    have HBV := Lib.hid (And.intro hBV hbs)
    have HSd := HBX.out V.drew hBV
    have HLL := Lib.hid HQ1.out.2.1
    have HPP := Lib.hid HQ1.out.2.2.1
    have HSS := Lib.hid HQ1.out.2.2.2
    have HVD : Hid (Below V.heap.size V V.drew) := Lib.hid (Below.refl V.heap.size V).drew
    clear hV hbV hBV hbs HQ1
    go_wp2_with fail
    go_region_held3 (fun W' => W'.cell? ⟨w1.heap.size, 0, none⟩ = some (.int .i64 i) ∧ W'.cell? ⟨w1.heap.size, 1, none⟩ = some (.slice (some ⟨g, off, none⟩) (m + 1) c))
      (first | exact HSd | assumption | exact HX5.out)
      (first | (go_at_call 28; (with_reducible refine (HPUSH.out _ E1 (HQV.out.past HVD.out) HLL.out HPP.out (HFV.out.trans (HF.below HVD.out)) HTT.out).mono ?_); rintro x w5 ⟨rfl, hf5, hr5, E2, q5, l5, p5, s5⟩; have HF5 := Lib.hid ((HFV.out.trans (HF.below HVD.out)).trans hf5); have HQ5 := Lib.hid (And.intro q5 (And.intro l5 (And.intro p5 s5))); obtain ⟨x50, x51⟩ := HBX.out w5 ((hr5.keep _ HBV.out.2 HNO.out).trans HBV.out.1); have HX5 := Lib.hid (And.intro x50 x51); clear hf5 hr5 q5 l5 p5 s5 HPUSH))
    all_goals
      go_wp2_with (go_at_call 29; (with_reducible refine (HHIT.out _ HF5.out).mono ?_); rintro x w6 ⟨rfl, hw6⟩; obtain ⟨⟨r0, r1, r2, r3⟩, hrow, hpost⟩ := HEND.out w5 w6 E2 _ _ HQ5.out.1 HF5.out (by have := HQ5.out.2.1; omega) (by rw [HQ5.out.2.1]; exact HQ5.out.2.2.1) (HREL.out E1 E2 HSS.out (.inr HQ5.out.2.2.2)) hw6.symm; have HROW := Lib.hid hrow; have HPOST := Lib.hid hpost; clear hw6 hrow hpost HEND HHIT)
      (try simp only [Exit.inBlock, Exit.then])
      refine bodyPost_ret (results_cell_tmp rfl _ _ W.heap.size _ _ _ _ rfl HROW.out Try.underlying33 rfl sizeHit) rfl ?_
      exact ⟨rfl, HPOST.out⟩

end Go.Proofs.Ytjifekdjkjnefaa
