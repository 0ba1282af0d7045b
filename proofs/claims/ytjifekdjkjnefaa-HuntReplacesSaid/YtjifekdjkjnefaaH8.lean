/- The walks of the queue's own Push and of heap.Push. -/
import Derived.Test.YtjifekdjkjnefaaH7
import Derived.Maps.AppendAt
namespace Go.Proofs.Ytjifekdjkjnefaa
open Go.RowKit

theorem step_append_own' {P : Program} {ops : Array Oper} {o : Oper} {a : Act} {w : World} {K : Act → World → Prop} {Q : Exit → Act → World → Prop} {E : Prop}
    (hg : o.guard = none) (s x : Operand) (t : TypeId) (hop : o.op = Op.call { callee := Callee.builtin Builtin.append, args := #[s, x], argTypes := #[t, t] })
    (base : Nat) (e : TypeId) (i : TypeInfo) (z : Value) (size bytes : Nat) (h1 : P.underlying t = some (.slice e)) (h2 : P.info? e = some i) (h3 : i.zero = some z) (h4 : i.size = size) (h5 : i.bytes = bytes) (h6 : z.cells.size = size) (h7 : 0 < size)
    (v : Value) (k : Nat) (xs : List Value) (hs : a.eval s = v) (hown : w.ownsRow base e size v k xs) (ad : Addr) (m c : Nat) (news : List Value) (hx : a.eval x = .slice (some ad) m c) (hn : news.length = m * size)
    (hc : ∀ j u, news[j]? = some u → w.cell? (ad.add j) = some u) (h1c : ∀ u ∈ news, u.oneCell' = true) (b1 : k + m ≤ maxLen) (b2 : (k + m) * bytes ≤ 140737488355328) (b3 : base ≤ w.heap.size)
    (hK : ∀ v' w', w'.ownsRow base e size v' (k + m) (xs ++ news) → w.grownBy w' v.ownBlock → (v'.ownBlock = v.ownBlock ∨ v'.ownBlock = some w.heap.size) → K (a.put o.dst v') w') :
    if Region.wanted o (yielded ops a.tmps) = true then Oper.wp P o a w K Q else E := by
  have hw : Region.wanted o (yielded ops a.tmps) = true := by simp [Region.wanted, hg]
  rw [if_pos hw]
  obtain ⟨v', w', hr, g2, g3, g4, g5⟩ := run_append_own_at (P := P) w base t o.type e i z size bytes h1 h2 h3 h4 h5 h6 h7 v k xs hown ad m c news hn hc h1c b1 b2 b3
  unfold Oper.wp execOp
  simp only [hop, resolve, invoke, builtin, Sem.run_bind, Sem.run_pure, Result.andThen_ok, List.map_toArray, List.map_cons, List.map_nil, hs, hx, hr]
  exact hK v' w' g2 g3 g5
theorem infoNd : (Try.prog.info? 51).map (fun i => (i.zero, i.size, i.bytes)) = some (some (.agg #[.int .i64 0, .slice none 0 0]), 2, 32) := by kernel_rfl
theorem eV_snoc (E : List Ent) (e : Ent) : eV (E ++ [e]) = eV E ++ [.int .i64 (e.1.1 : Nat), e.2] := by simp [eV]
theorem ndE_snoc (E : List Ent) (e : Ent) : ndE (E ++ [e]) = ndE E ++ [e.1] := by simp [ndE]
theorem news2 (W : World) (u v : Value) (t : TypeId) : ∀ (j : Nat) (x : Value), [u, v][j]? = some x → (W.alloc (.cells #[u, v] t)).cell? ((⟨W.heap.size, 0, none⟩ : Addr).add j) = some x := fun j x hj => by
  match j, hj with
  | 0, hj =>
    simp at hj
    subst hj
    exact (cell_of_row _ _ _ _ _ _ (heap_alloc_new W _)).trans rfl
  | 1, hj =>
    simp at hj
    subst hj
    exact (cell_of_row _ _ _ _ _ _ (heap_alloc_new W _)).trans rfl
theorem ta_nd (v : Value) (w : World) : (Instr.typeAssert (.iface 51 v) 20 51 false).run Try.prog w = .ok v w := by
  kernel_rfl
/-- A queue's box set to a grown row. -/
theorem QM.put {w0 W W2 w8 : World} {b : Nat} {E : List Ent} {e : Ent} {A : Option Addr} {c : Nat} {v8 : Value} (h : QM w0 b E W) (h1 : W.heap[b]? = some (.cells #[.slice A E.length c] 49 (0, 0))) (h2 : W.ownsRow (b + 1) 51 2 (.slice A E.length c) E.length (eV E)) (hp : PR W e) (hb2 : Below W.heap.size W W2)
    (ho : w8.ownsRow (b + 1) 51 2 v8 (E.length + 1) (eV E ++ [.int .i64 (e.1.1 : Nat), e.2])) (hg : W2.grownBy w8 (Value.slice A E.length c).ownBlock) (hv8 : v8.ownBlock = (Value.slice A E.length c).ownBlock ∨ v8.ownBlock = some W2.heap.size) :
    (w8.frozen? ⟨b, 0, none⟩ = false ∧ ∃ o, w8.cell? ⟨b, 0, none⟩ = some o) ∧ QM w0 b (E ++ [e]) (w8.setCell ⟨b, 0, none⟩ v8) ∧ HF W (w8.setCell ⟨b, 0, none⟩ v8) ∧ FrO (QO b) W (w8.setCell ⟨b, 0, none⟩ v8) := by
  have hbs := (Array.getElem?_eq_some_iff.1 h1).1
  have hne : (Value.slice A E.length c).ownBlock ≠ some b := fun e => by have := (h2.lt b e).1; omega
  have hn8 : v8.ownBlock ≠ some b := fun e => by have := (ho.lt b e).1; omega
  have hb8 : w8.heap[b]? = some (.cells #[.slice A E.length c] 49 (0, 0)) := (hg.block b (by have := hb2.size; omega) (fun e => hne e.symm)).trans ((hb2.block b hbs).trans h1)
  obtain ⟨A8, c8, rfl, _⟩ := own_formC ho
  have hset : (w8.setCell ⟨b, 0, none⟩ (.slice A8 (E.length + 1) c8)).heap[b]? = some (.cells #[.slice A8 (E.length + 1) c8] 49 (0, 0)) := by simp [World.setCell, Array.getElem?_modify, hb8]
  have hlen : (E ++ [e]).length = E.length + 1 := by simp
  have hkeep : ∀ k, k < W.heap.size → k ≠ b → (Value.slice A E.length c).ownBlock ≠ some k → (w8.setCell ⟨b, 0, none⟩ (.slice A8 (E.length + 1) c8)).heap[k]? = W.heap[k]? := fun k hk hkb hko => (Below.heap_setCell _ _ _ k hkb).trans ((hg.block k (by have := hb2.size; omega) (fun e => hko e.symm)).trans (hb2.block k hk))
  have hHF : HF W (w8.setCell ⟨b, 0, none⟩ (.slice A8 (E.length + 1) c8)) := by
    refine ⟨by rw [World.size_setCell]; exact Nat.le_trans hb2.size hg.size, fun k u t fz hk n1 n2 => (hkeep k (Array.getElem?_eq_some_iff.1 hk).1 (fun e => ?_) (fun e => ?_)).trans hk⟩
    · subst e
      rw [h1] at hk
      simp only [Option.some.injEq, Obj.cells.injEq] at hk
      exact n2 hk.2.1.symm
    · rcases h2.2 with ⟨e2, _⟩ | ⟨g, cap, cur, e2, _, h4, _⟩
      · rw [e2] at e
        exact absurd e (by simp [Value.ownBlock])
      · rw [e2] at e
        have e3 : g = k := by simpa [Value.ownBlock] using e
        subst e3
        rw [h4] at hk
        simp only [Option.some.injEq, Obj.cells.injEq] at hk
        exact n1 hk.2.1.symm
  have hle := h.le
  refine ⟨⟨by simp [World.frozen?, hb8], _, cell_of_row _ _ 0 _ _ _ hb8⟩, ⟨⟨?_, ?_, ?_, ?_, fun k hk => ?_⟩, h.le, ⟨A8, c8, by rw [hlen]; exact hset, ?_⟩, fun x hx => ?_⟩, hHF, ⟨hHF.size, fun k hk hno => hkeep k hk (fun e => hno (.inl e)) (fun e => hno (.inr ⟨_, h1, e⟩)), fun k ho8 => ?_⟩⟩
  · exact hg.os.trans (hb2.os.trans h.below.os)
  · exact hg.tape.trans (hb2.tape.trans h.below.tape)
  · exact hg.output.trans (hb2.output.trans h.below.output)
  · rw [World.size_setCell]; exact Nat.le_trans h.below.size (Nat.le_trans hb2.size hg.size)
  · exact (hkeep k (by have := h.below.size; omega) (by omega) (fun e => by have := (h2.lt k e).1; omega)).trans (h.below.block k hk)
  · rw [hlen, eV_snoc]
    exact ho.kept (row := some b) ⟨rfl, rfl, rfl, by simp [World.setCell], fun k _ hk => Below.heap_setCell _ _ _ _ (fun e => hk (by simp [e]))⟩ (.inr hn8)
  · rcases List.mem_append.1 hx with hx | hx
    · exact (h.pr x hx).hf hHF
    · rw [List.mem_singleton.1 hx]
      exact hp.hf hHF
  · rcases ho8 with rfl | ⟨v, hv, hk⟩
    · exact .inl (.inl rfl)
    · rw [hset] at hv
      simp only [Option.some.injEq, Obj.cells.injEq, Array.mk.injEq, List.cons.injEq, and_true] at hv
      subst hv
      rcases hv8 with e | e
      · exact .inl (.inr ⟨_, h1, e.symm.trans hk⟩)
      · rw [e] at hk
        injection hk with hk
        exact .inr (by have := hb2.size; omega)
set_option maxRecDepth 100000 in
set_option maxHeartbeats 4000000 in
theorem qpush_any (w0 : World) (b : Nat) (E : List Ent) (e : Ent) (hl : E.length ≤ 90000) (W : World) (h : QM w0 b E W) (hp : PR W e) :
    Calls Try.prog 65 #[.pointer (some ⟨b, 0, none⟩), .iface 51 (.agg #[.int .i64 (e.1.1 : Nat), e.2])] W fun x w' => x = .returned (.tuple #[]) ∧ QM w0 b (E ++ [e]) w' ∧ HF W w' ∧ FrO (QO b) W w' := by
  obtain ⟨i0, hi0, hz0, hz1, hz2⟩ := info_parts infoNd
  obtain ⟨A, c, h1, h2⟩ := h.box
  obtain ⟨ge, oe, ce, ue, i1, _⟩ := hp
  have hp2 : PR W e := ⟨ge, oe, ce, ue, i1, by assumption⟩
  have hbs := (Array.getElem?_eq_some_iff.1 h1).1
  have cb : W.cell? ⟨b, 0, none⟩ = some (.slice A E.length c) := row_cell h1 0 _ rfl
  have HOWN : Hid (∀ V, Below W.heap.size W V → V.ownsRow (b + 1) 51 2 (.slice A E.length c) E.length (eV E)) := Lib.hid fun V hV => own_past h2 hV
  have HEND : Hid (∀ V v8 w8, Below W.heap.size W V → w8.ownsRow (b + 1) 51 2 v8 (E.length + 1) (eV E ++ [.int .i64 (e.1.1 : Nat), e.2]) → V.grownBy w8 (Value.slice A E.length c).ownBlock → (v8.ownBlock = (Value.slice A E.length c).ownBlock ∨ v8.ownBlock = some V.heap.size) → (w8.frozen? ⟨b, 0, none⟩ = false ∧ ∃ o, w8.cell? ⟨b, 0, none⟩ = some o) ∧ QM w0 b (E ++ [e]) (w8.setCell ⟨b, 0, none⟩ v8) ∧ HF W (w8.setCell ⟨b, 0, none⟩ v8) ∧ FrO (QO b) W (w8.setCell ⟨b, 0, none⟩ v8)) := Lib.hid fun V v8 w8 hb ho hg hv8 => h.put h1 h2 hp2 hb ho hg hv8
  have HSZ : Hid (∀ V, Below W.heap.size W V → b + 1 ≤ V.heap.size) := Lib.hid fun V hV => by have := hV.size; omega
  have cA : ∀ o, (W.alloc o).cell? ⟨b, 0, none⟩ = some (.slice A E.length c) := fun o => ((belA (Below.refl W.heap.size W) o).cell (p := ⟨b, 0, none⟩) hbs).trans cb
  have hta := fun w => ta_nd (.agg #[.int .i64 (e.1.1 : Nat), .slice (some ⟨ge, oe, none⟩) e.1.2.length ce]) w
  clear h h1 h2 hp2
  rw [i1] at HEND ⊢
  clear i1
  generalize E.length = n at *
  generalize eV E = os at *
  generalize E ++ [e] = E2 at *
  generalize e.1.2.length = ne at *
  generalize e.1.1 = we at *
  go_enter Try.func65, Try.ntmps65
  go_wp2_with fail
  go_region_law ((refine step_append_own' rfl _ _ 47 rfl (b + 1) 51 i0 _ 2 32 Try.underlying47 hi0 hz0 hz1 hz2 rfl (by decide) (.slice A n c) n os rfl (HOWN.out _ (by repeat (first | exact Below.refl _ _ | refine Below.drew ?_ | refine belA ?_ _))) ⟨W.heap.size, 0, none⟩ 1 1 [.int .i64 (we : Nat), .slice (some ⟨ge, oe, none⟩) ne ce] rfl rfl (by first | exact news2 W _ _ _ | exact news2 W.drew _ _ _) (by simp [Value.oneCell']) (by unfold maxLen; omega) (by omega) (HSZ.out _ (by repeat (first | exact Below.refl _ _ | refine Below.drew ?_ | refine belA ?_ _))) ?_); intro v8 w8 ho8 hg8 hv8; obtain ⟨⟨f8, o8, c8⟩, hq8, hf8, hr8⟩ := HEND.out _ _ _ (by repeat (first | exact Below.refl _ _ | refine Below.drew ?_ | refine belA ?_ _)) ho8 hg8 hv8; obtain ⟨A8, c9, rfl, _⟩ := own_formC ho8; have HQ8 := Lib.hid hq8; have HF8 := Lib.hid hf8; have HR8 := Lib.hid hr8; clear ho8 hg8 hq8 hf8 hv8 hr8)
  all_goals
    go_end0
    exact ⟨rfl, HQ8.out, HF8.out, HR8.out⟩
set_option maxRecDepth 100000 in
set_option maxHeartbeats 4000000 in
theorem push_any (w0 : World) (b n : Nat) (E : List Ent) (e : Ent) (hn : E.length = n) (hl : n ≤ 90000) (hH : HP n 0 (ndE E)) (W : World) (h : QM w0 b E W) (hp : PR W e) :
    Calls Try.prog 28 #[.iface 53 (.pointer (some ⟨b, 0, none⟩)), .iface 51 (.agg #[.int .i64 (e.1.1 : Nat), e.2])] W fun x w' => x = .returned (.tuple #[]) ∧ HF W w' ∧ FrO (QO b) W w' ∧ ∃ E', QM w0 b E' w' ∧ E'.length = n + 1 ∧ HP (n + 1) 0 (ndE E') ∧ SameN (ndE E') (ndE E ++ [e.1]) := by
  have hlen : (E ++ [e]).length = n + 1 := by simp [hn]
  have HQP := Lib.hid (qpush_any w0 b E e (by omega) W h hp)
  have hm := meth_push b W
  have HLEN : Hid (∀ W1, QM w0 b (E ++ [e]) W1 → ∃ A c, W1.cell? ⟨b, 0, none⟩ = some (.slice A (n + 1) c)) := Lib.hid fun W1 hq => by
    obtain ⟨A, c, h1, _⟩ := hq.box
    rw [hlen] at h1
    exact ⟨A, c, row_cell h1 0 _ rfl⟩
  have HUP : Hid (∀ W1 v, QM w0 b (E ++ [e]) W1 → W1.cell? ⟨b, 0, none⟩ = some v → Calls Try.prog 37 #[.iface 53 (.pointer (some ⟨b, 0, none⟩)), .int .i64 n] W1 fun x w' => x = .returned (.tuple #[]) ∧ ∃ E', QD w0 b (E ++ [e]) v W1 (E ++ [e]).length 0 E' w' ∧ HP (E ++ [e]).length 0 (ndE E')) := Lib.hid fun W1 v hq hc => by
    refine up_any w0 b n (E ++ [e]) v (by omega) (by omega) ?_ W1 hq hc
    rw [hlen, ndE_snoc]
    exact hH.push (by rw [ndE_len]; exact hn) e.1
  have HFIN : Hid (∀ W1 v E' W2, QD w0 b (E ++ [e]) v W1 (E ++ [e]).length 0 E' W2 → HP (E ++ [e]).length 0 (ndE E') → QM w0 b E' W2 ∧ E'.length = n + 1 ∧ HP (n + 1) 0 (ndE E') ∧ SameN (ndE E') (ndE E ++ [e.1])) := Lib.hid fun W1 v E' W2 hq hp => ⟨hq.q, hq.len.trans hlen, by rw [← hlen]; exact hp, by rw [← ndE_snoc]; exact hq.same⟩
  have hw0 : IntKind.i64.wrap ((n : Int) + 1 - 1) = n := by rw [IntKind.wrap_i64]; omega
  have HLN := Lib.hid (fun A c W => qlen_any A (n + 1) c W)
  clear h hp hH hlen hn
  generalize e.2 = ev at *
  go_enter Try.func28, Try.ntmps28
  go_wp2_with (first
    | (go_at_call 65; (with_reducible refine (HQP.out).mono ?_); rintro x w1 ⟨rfl, hq1, hf1, hr1⟩; obtain ⟨A1, c1, hc1⟩ := HLEN.out w1 hq1; have hm1 := meth_len b w1 _ hc1; have HQ1 := Lib.hid hq1; have HF1 := Lib.hid hf1; have HR1 := Lib.hid hr1; clear hq1 hf1 hr1 HQP)
    | (go_at_call 26; (with_reducible refine (HLN.out _ _ _).mono ?_); rintro x w2 ⟨rfl, rfl⟩)
    | (go_at_call 37; (with_reducible refine (HUP.out w1 _ HQ1.out hc1).mono ?_); rintro x w3 ⟨rfl, E3, hq3, hp3⟩; have HF3 := Lib.hid (HF1.out.trans hq3.hf); have HR3 := Lib.hid (HR1.out.trans' hq3.fr); have HE3 := Lib.hid (HFIN.out _ _ E3 w3 hq3 hp3); clear hq3 hp3 HUP))
  go_end0
  exact ⟨rfl, HF3.out, HR3.out, E3, HE3.out⟩

end Go.Proofs.Ytjifekdjkjnefaa
