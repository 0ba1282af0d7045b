/- The walks of slices.Clone at []rune, and of width.Clusters. -/
import Derived.Test.YtacmldggdacdpabDoorWf
namespace Go.Proofs.YtacmldggdacdpabDoor
open Go.RowKit Go.Shelf
attribute [local go_sem] Oper.semAt_some

theorem Tryd.infoRune : (Tryd.prog.info? 21).map (fun i => (i.zero, i.size, i.bytes)) = some (some (.int .i32 0), 1, 4) := by kernel_rfl
theorem addr_add (b off j : Nat) : (⟨b, off, none⟩ : Addr).add j = ⟨b, off + j, none⟩ := by unfold Addr.add; split <;> simp_all

def ClonePost (xs : List Int) (w : World) (e : Ending) (w' : World) : Prop :=
  ∃ v, e = .returned v ∧ w'.ownsRow w.heap.size 21 1 v xs.length (xs.map (Value.int .i32)) ∧ Below w.heap.size w w'

set_option maxHeartbeats 400000 in
theorem clone_any (A : Option Addr) (xs : List Int) (n c : Nat) (hn : n = xs.length) (hpos : 0 < n) (hlen : n ≤ 100000) (w : World) (hR : RS w w.heap.size A xs) :
    Calls Tryd.prog 18 #[.slice A n c] w (ClonePost xs w) := by
  obtain ⟨b, off, rfl, hb, hc⟩ := hR (by rintro rfl; simp at hn; omega)
  obtain ⟨i0, hi, hz0, hz1, hz2⟩ := info_parts Tryd.infoRune
  have HC : Hid (∀ W, Below w.heap.size w W → ∀ j u, (xs.map (Value.int .i32))[j]? = some u → W.cell? ((⟨b, off, none⟩ : Addr).add j) = some u) := Lib.hid fun W hW j u hu => by
    rw [addr_add]
    have hj : j < xs.length := by
      rcases Nat.lt_or_ge j xs.length with h | h
      · exact h
      · rw [List.getElem?_eq_none (by simpa using h)] at hu; cases hu
    refine (hW.cell (p := ⟨b, off + j, none⟩) hb).trans ((hc j hj).trans ?_)
    rw [List.getElem?_map, List.getElem?_eq_getElem hj] at hu
    rw [List.getElem?_eq_getElem hj]
    simpa using hu
  have HL : Hid ((xs.map (Value.int .i32)).length = n * 1) := Lib.hid (by simp [hn])
  have H1 : Hid (∀ u ∈ xs.map (Value.int .i32), u.oneCell' = true) := Lib.hid (fun u hu => by
    obtain ⟨x, _, rfl⟩ := List.mem_map.1 hu; rfl)
  have HN := Lib.hid hn
  have hm1 : 0 + n ≤ maxLen := by unfold maxLen; omega
  have hm2 : (0 + n) * 4 ≤ 140737488355328 := by omega
  clear hn hc
  unfold ClonePost
  rw [← HN.out]
  have hne : ∀ (W : World) (a : Option Addr) (n c n' c' : Nat), (binOp .eql 24 (.slice a n c) (.slice none n' c')).run Tryd.prog W = .ok (.bool a.isNone) W := fun W a n c n' c' => Lib.run_eql_slice_nil W _ _ a n c n' c' Tryd.underlying24
  go_enter Tryd.func18, Tryd.ntmps18
  go_wp2_with (at_builtin; go_must (refine wpList_append_own _ rfl _ _ 24 rfl w.heap.size 21 i0 (.int .i32 0) 1 4 Tryd.underlying24 hi hz0 hz1 hz2 rfl (by decide) _ 0 [] rfl (World.ownsRow_made w #[] 0 (Nat.le_refl _) (by decide) rfl) ⟨b, off, none⟩ n c (xs.map (Value.int .i32)) rfl HL.out (HC.out _ ((Below.refl _ _).alloc (Nat.le_refl _) _)) H1.out hm1 hm2 (by simp) ?_; intro v' w1 hown' hgrow _))
  go_ret
  exact ⟨v', rfl, by simpa using hown', (((Below.refl _ w).alloc (Nat.le_refl _) _)).grown hgrow (by simp) (fun k e => by cases e; exact Nat.le_refl _)⟩

theorem stepIn_append_own {F : Fence} {n : Nat} {P : Program} (w : World) {ops : Array Oper} {o : Oper} {a : Act} {K : Act → World → Prop} {Q : Exit → Act → World → Prop} {E : Prop}
    (hg : o.guard = none) (s x : Operand) (t : TypeId) (hop : o.op = Op.call { callee := Callee.builtin Builtin.append, args := #[s, x], argTypes := #[t, t] })
    (base : Nat) (e : TypeId) (i : TypeInfo) (z : Value) (size bytes : Nat) (h1 : P.underlying t = some (.slice e)) (h2 : P.info? e = some i) (h3 : i.zero = some z) (h4 : i.size = size) (h5 : i.bytes = bytes) (h6 : z.cells.size = size) (h7 : 0 < size)
    (v : Value) (k : Nat) (xs : List Value) (hs : a.eval s = v) (hown : w.ownsRow base e size v k xs) (ad : Addr) (m c : Nat) (news : List Value) (hx : a.eval x = .slice (some ad) m c) (hn : news.length = m * size)
    (hc : ∀ j u, news[j]? = some u → w.cell? (ad.add j) = some u) (h1c : ∀ u ∈ news, u.oneCell' = true) (b1 : k + m ≤ maxLen) (b2 : (k + m) * bytes ≤ 140737488355328) (b3 : base ≤ w.heap.size)
    (hK : ∀ v' w', w'.ownsRow base e size v' (k + m) (xs ++ news) → w.grownBy w' v.ownBlock → K (a.put o.dst v') w') :
    if Region.wanted o (yielded ops a.tmps) = true then Oper.wpIn F n P o a w K Q else E := by
  have hw : Region.wanted o (yielded ops a.tmps) = true := by simp [Region.wanted, hg]
  rw [if_pos hw]
  obtain ⟨v', w', hrun, r1, r2, _⟩ := run_append_own (P := P) w base t o.type e i z size bytes h1 h2 h3 h4 h5 h6 h7 v k xs hown ad m c news hn hc h1c b1 b2 b3
  unfold Oper.wpIn
  refine ⟨?_, ?_⟩
  · simp [Oper.about, hop, resolve, Target.leads, Sem.run_pure]
  · rw [Oper.semAt_plain F _ _ (by rw [hop]; intro c hc'; cases hc')]
    simp [execOp, hop, resolve, invoke, builtin, hs, hx, hrun, Result.andThen]
    exact hK v' w' r1 r2
theorem ownsRow_succ' {W : World} {base : Nat} {e : TypeId} {size : Nat} {v : Value} {k : Nat} {xs : List Value} (hk : 0 < k) (h : W.ownsRow base e size v k xs) : ∃ g cap, v = .slice (some ⟨g, 0, none⟩) k cap := by
  rcases h.2 with ⟨_, h0⟩ | ⟨g, cap, cur, e, _⟩
  · omega
  · exact ⟨g, cap, e⟩
theorem ownsRow_below' {w w' : World} {base : Nat} {e : TypeId} {size : Nat} {v : Value} {n : Nat} {xs : List Value} (h : w.ownsRow base e size v n xs) (hb : Below w.heap.size w w') : w'.ownsRow base e size v n xs :=
  h.kept (row := none) (grown_of_below hb) (by cases hv : v.ownBlock <;> simp)
theorem own_ne {w : World} {b b' : Nat} {e e' : TypeId} {s s' : Nat} {v v' : Value} {n n' : Nat} {xs xs' : List Value} (h : w.ownsRow b e s v n xs) (h' : w.ownsRow b' e' s' v' n' xs') (hne : e ≠ e') : v.ownBlock = none ∨ v.ownBlock ≠ v'.ownBlock := by
  rcases h.2 with ⟨rfl, _⟩ | ⟨g, cap, cur, rfl, _, hg, _⟩
  · exact .inl rfl
  · rcases h'.2 with ⟨rfl, _⟩ | ⟨g', cap', cur', rfl, _, hg', _⟩
    · exact .inr (by simp [Value.ownBlock])
    · refine .inr fun eg => ?_
      obtain rfl : g = g' := by simpa [Value.ownBlock] using eg
      rw [hg] at hg'
      injection hg' with hg'
      injection hg' with _ he _
      exact hne he

theorem Tryd.infoRow : (Tryd.prog.info? 24).map (fun i => (i.zero, i.size, i.bytes)) = some (some (.slice none 0 0), 1, 24) := by kernel_rfl

/-- The clusters' own rows. -/
def CP (n₀ : Nat) (xs : List Int) (vs : List Value) (l : List (Nat × Nat)) (W : World) : Prop :=
  vs.length = l.length ∧ ∀ (i : Nat) (x : Nat × Nat), l[i]? = some x → ∃ u, vs[i]? = some u ∧ W.ownsRow n₀ 21 1 u (x.2 - x.1) ((piece xs x).map (Value.int .i32))
theorem CP.kept {n₀ : Nat} {xs : List Int} {vs : List Value} {l : List (Nat × Nat)} {W W' : World} {row : Option Nat} (h : CP n₀ xs vs l W) (hg : W.grownBy W' row) (hr : ∀ r, row = some r → ∀ cur, W.heap[r]? ≠ some (.cells cur 21 (0, 0))) : CP n₀ xs vs l W' :=
  ⟨h.1, fun i x hi => by
    obtain ⟨u, hu, ho⟩ := h.2 i x hi
    refine ⟨u, hu, ho.kept hg ?_⟩
    rcases ho.2 with ⟨rfl, _⟩ | ⟨g, cap, cur, rfl, _, hgb, _⟩
    · exact .inl rfl
    · exact .inr fun e => hr g (by simpa [Value.ownBlock] using e.symm) cur hgb⟩
theorem CP.snoc {n₀ : Nat} {xs : List Int} {vs : List Value} {l : List (Nat × Nat)} {W : World} (h : CP n₀ xs vs l W) (x : Nat × Nat) (u : Value) (hu : W.ownsRow n₀ 21 1 u (x.2 - x.1) ((piece xs x).map (Value.int .i32))) : CP n₀ xs (vs ++ [u]) (l ++ [x]) W :=
  ⟨by simp [h.1], fun i y hi => by
    rcases Nat.lt_or_ge i l.length with hl | hl
    · rw [List.getElem?_append_left hl] at hi
      obtain ⟨v, hv, ho⟩ := h.2 i y hi
      exact ⟨v, by rw [List.getElem?_append_left (by rw [h.1]; exact hl)]; exact hv, ho⟩
    · rw [List.getElem?_append_right hl] at hi
      have hi0 : i - l.length = 0 := by
        rcases Nat.eq_zero_or_pos (i - l.length) with h0 | h0
        · exact h0
        · rw [List.getElem?_eq_none (by simp; omega)] at hi; cases hi
      rw [hi0] at hi
      obtain rfl : x = y := by simpa using hi
      exact ⟨u, by rw [List.getElem?_append_right (by rw [h.1]; exact hl), h.1, hi0]; rfl, hu⟩⟩
theorem CP.own (n₁ n₀ : Nat) (xs : List Int) (B : Nat) (t e : TypeId) : Own (fun (pre : List (Pc xs.length)) W => ∃ v vs, Boxed W B t v ∧ W.ownsRow n₁ e 1 v pre.length vs ∧ CP n₀ xs vs (pre.map (·.1)) W) := by
  rintro pre A C row ⟨v, vs, hb, ho, hc⟩ hg hr
  obtain ⟨_, _, hrow⟩ : ∃ (a b : Nat), ∀ r, row = some r → ∀ cur t', A.heap[r]? ≠ some (.cells cur t' (0, 0)) := ⟨0, 0, fun r e cur t' h => by
    obtain ⟨o, ho', hno⟩ := hr r e
    rw [h] at ho'; cases ho'; cases hno⟩
  refine ⟨v, vs, hb.kept hg (fun e => hrow _ e.symm _ _ hb), ho.kept hg ?_, hc.kept hg (fun r e cur => hrow r e cur _)⟩
  rcases ho.2 with ⟨rfl, _⟩ | ⟨g, cap, cur, rfl, _, hgb, _⟩
  · exact .inl rfl
  · exact .inr fun e => hrow g (by simpa [Value.ownBlock] using e.symm) cur _ hgb

/-- What Clusters answers: rows of the call's own, one for each cluster. -/
def ClPost (xs : List Int) (w : World) (e : Ending) (w' : World) : Prop :=
  ∃ v vs, e = .returned v ∧ w'.ownsRow w.heap.size 24 1 v (pairs xs).length vs ∧ CP w.heap.size xs vs (pairs xs) w' ∧ Below w.heap.size w w'

theorem ownsRow_base {W : World} {base base' : Nat} {e : TypeId} {size : Nat} {v : Value} {k : Nat} {xs : List Value} (h : W.ownsRow base e size v k xs) (hb : base' ≤ base) : W.ownsRow base' e size v k xs := by
  refine ⟨h.1, ?_⟩
  rcases h.2 with h0 | ⟨g, cap, cur, hv, hg, hr⟩
  · exact .inl h0
  · exact .inr ⟨g, cap, cur, hv, Nat.le_trans hb hg, hr⟩
/-- A round's step: behind the append and the store. -/
theorem cl_step {w W w1 w2 : World} {xs : List Int} {v v' u sv : Value} {vs : List Value} {k : Nat} {l : List (Nat × Nat)} {tmp : Obj} (x : Nat × Nat)
    (hB : Below w.heap.size w W) (d0 : Boxed W w.heap.size 34 v) (d1 : Boxed W (w.heap.size + 1) 24 sv) (hrow : W.ownsRow (w.heap.size + 2) 24 1 v k vs) (hcp : CP w.heap.size xs vs l W)
    (hb1 : Below W.heap.size W w1) (hu : w1.ownsRow W.heap.size 21 1 u (x.2 - x.1) ((piece xs x).map (Value.int .i32)))
    (hown' : w2.ownsRow (w.heap.size + 2) 24 1 v' (k + 1) (vs ++ [u])) (hgrow : (w1.alloc tmp).grownBy w2 v.ownBlock) :
    Boxed w2 w.heap.size 34 v ∧ (KeepsOthers W (w2.setCell ⟨w.heap.size, 0, none⟩ v') ∧ KpB w.heap.size (w.heap.size + 1) W (w2.setCell ⟨w.heap.size, 0, none⟩ v') ∧
      ((∃ v vs, Boxed (w2.setCell ⟨w.heap.size, 0, none⟩ v') w.heap.size 34 v ∧ (w2.setCell ⟨w.heap.size, 0, none⟩ v').ownsRow (w.heap.size + 2) 24 1 v (k + 1) vs ∧ CP w.heap.size xs vs (l ++ [x]) (w2.setCell ⟨w.heap.size, 0, none⟩ v')) ∧
        Boxed (w2.setCell ⟨w.heap.size, 0, none⟩ v') (w.heap.size + 1) 24 sv) ∧ Below w.heap.size w (w2.setCell ⟨w.heap.size, 0, none⟩ v')) := by
  have g0 := d0.below hb1
  have g1 := d1.below hb1
  have hrow1 := ownsRow_below' hrow hb1
  have hcp1 := hcp.kept (grown_of_below hb1) (fun _ e => by cases e)
  have hu1 := ownsRow_base hu hB.size
  obtain ⟨hv1, hv2, _, hk2, hb2⟩ := g0.appended (by decide) (ownsRow_base hrow1 (by omega)) (Nat.le_trans hB.size hb1.size) (Nat.le_refl _) (ownsRow_base hown' (by omega)) hgrow
  have e1 : some (w.heap.size + 1) ≠ v.ownBlock := fun e => by
    rcases hrow1.2 with ⟨rfl, _⟩ | ⟨g, cap, cur, rfl, hbg, _⟩
    · simp [Value.ownBlock] at e
    · obtain rfl : w.heap.size + 1 = g := by simpa [Value.ownBlock] using e
      omega
  have hb3 : Boxed (w2.setCell ⟨w.heap.size, 0, none⟩ v') (w.heap.size + 1) 24 sv := (((g1.alloc tmp).kept hgrow e1)).other (by omega) _
  have hne : ∀ r, v.ownBlock = some r → ∀ cur, (w1.alloc tmp).heap[r]? ≠ some (.cells cur 21 (0, 0)) := fun r e cur h => by
    rcases (hrow1.alloc tmp).2 with ⟨rfl, _⟩ | ⟨g, cap, cur', rfl, _, hg, _⟩
    · simp [Value.ownBlock] at e
    · obtain rfl : g = r := by simpa [Value.ownBlock] using e
      rw [hg] at h
      injection h with h
      injection h with _ ht _
      exact absurd ht (by decide)
  have hne' : ∀ r, some w.heap.size = some r → ∀ cur, w2.heap[r]? ≠ some (.cells cur 21 (0, 0)) := fun r e cur h => by
    cases e
    unfold Boxed at hv1
    rw [hv1] at h
    injection h with h
    injection h with _ ht _
    exact absurd ht (by decide)
  have hcp3 := ((hcp1.kept (World.grownBy_alloc w1 tmp none) (fun _ e => by cases e)).kept hgrow hne).kept (grownBy_setCell' w2 w.heap.size v') hne'
  have hu3 := ((hu1.alloc tmp).kept hgrow (own_ne (hu1.alloc tmp) (hrow1.alloc tmp) (by decide)))
  have hu4 := hu3.kept (grownBy_setCell' w2 w.heap.size v') (.inr (hv1.not_row (by decide) hu3).symm)
  exact ⟨hv1, (keeps_below hb1).trans hk2, ⟨(hb1.mono hB.size).trans hb2, hb3.trans d1.symm⟩, ⟨⟨v', _, hv2, hown'.kept (grownBy_setCell' w2 w.heap.size v') (.inr (hv1.not_row (by decide) hown').symm), hcp3.snoc x u hu4⟩, hb3⟩, hB.trans ((hb1.mono hB.size).trans hb2)⟩
theorem cl_leaf {w W W2 : World} {xs : List Int} {sv : Value} {pre : List (Pc xs.length)} {x : Pc xs.length} {B : Nat} (HX : Hid ((pre ++ [x]).map (·.1) = pre.map (·.1) ++ [x.1]))
    (h : KeepsOthers W W2 ∧ KpB w.heap.size (w.heap.size + 1) W W2 ∧ ((∃ v vs, Boxed W2 w.heap.size 34 v ∧ W2.ownsRow (w.heap.size + 2) 24 1 v (pre.length + 1) vs ∧ CP w.heap.size xs vs (pre.map (·.1) ++ [x.1]) W2) ∧ Boxed W2 (w.heap.size + 1) 24 sv) ∧ Below w.heap.size w W2) :
    KeepsFrom B W W2 ∧ KpB w.heap.size (w.heap.size + 1) W W2 ∧ ((∃ v vs, Boxed W2 w.heap.size 34 v ∧ W2.ownsRow (w.heap.size + 2) 24 1 v (pre ++ [x]).length vs ∧ CP w.heap.size xs vs ((pre ++ [x]).map (·.1)) W2) ∧ Boxed W2 (w.heap.size + 1) 24 sv) ∧ Below w.heap.size w W2 := by
  rw [HX.out, List.length_append]
  exact ⟨h.1.from _, h.2⟩

set_option maxRecDepth 100000 in
set_option maxHeartbeats 2000000 in
theorem clustersFn_in (m : Nat) (hm : 3 ≤ m) (A : Option Addr) (xs : List Int) (n c : Nat) (hn : n = xs.length) (hlen : n ≤ 100000) (hcap : n ≤ c) (hc47 : c ≤ 9223372036854775807) (w : World) (hT : WT w) (hR : RS w w.heap.size A xs) :
    CallsIn Fence.wide m Tryd.prog 11 #[.slice A n c] w (ClPost xs w) := by
  have h1 : 1 ≤ m := by omega
  obtain ⟨i0, hi, hz0, hz1, hz2⟩ := info_parts Tryd.infoRow
  refine callsIn_of_wp_marks Tryd.func11 rfl trivial ?_ rfl
  simp only [Tryd.ntmps11, List.size_toArray, List.length_cons, List.length_nil, Nat.reduceAdd, Nat.reduceSub, Array.replicate_succ, Array.replicate_zero, List.push_toArray, List.append_toArray, List.nil_append, List.cons_append]
  have HN := Lib.hid hn
  clear hn
  gi_wp2_with (refine ⟨trivial, ?_⟩; gi_at_call 17; refine (clusters_in (m - 1) _ _ _ _).mono ?_; rintro e w' ⟨rfl, rfl⟩)
  have b0 := Boxed.new w 34 (.slice none 0 0)
  have b1 := Boxed.new (w.alloc (.cells #[.slice none 0 0] 34)) 24 (.slice A n c)
  simp only [World.size_alloc] at b1
  have hB0 : Below w.heap.size w ((w.alloc (.cells #[.slice none 0 0] 34)).alloc (.cells #[.slice A n c] 24)) := ((Below.refl _ w).alloc (Nat.le_refl _) _).alloc (by simp) _
  have hT0 := hT.below hB0
  have hR0 := hR.below hB0
  have h2 : 2 ≤ w.heap.size := by have := hT.2.1; omega
  have c0 : Boxed ((w.alloc (.cells #[.slice none 0 0] 34)).alloc (.cells #[.slice A n c] 24)) w.heap.size 34 (.slice none 0 0) := b0.alloc _
  have hsz : ((w.alloc (.cells #[.slice none 0 0] 34)).alloc (.cells #[.slice A n c] 24)).heap.size = w.heap.size + 2 := by simp
  clear b0
  generalize ((w.alloc (.cells #[.slice none 0 0] 34)).alloc (.cells #[.slice A n c] 24)) = W0 at hB0 hT0 hR0 c0 b1 hsz ⊢
  refine wpIn_rangeFunc_ownG rfl h1 (gf := 19) (lb := #[.pointer (some ⟨w.heap.size + 1, 0, none⟩)]) rfl trivial (enters_of Tryd.func19 (by kernel_rfl) rfl)
    (clusters_stops (m - 1) (by omega) (w.heap.size + 1) w.heap.size A xs c (by have := HN.out; omega) hc47 W0 h2 (by omega) (by omega) hT0 hR0 (by rw [← HN.out]; exact b1.cell)) KpB.trans (KpB.put (by omega) (by omega)) (Below.refl _ _) (fun _ => rfl)
    (fun pre W => ((∃ v vs, Boxed W w.heap.size 34 v ∧ W.ownsRow (w.heap.size + 2) 24 1 v pre.length vs ∧ CP w.heap.size xs vs (pre.map (·.1)) W) ∧ Boxed W (w.heap.size + 1) 24 (.slice A n c)) ∧ Below w.heap.size w W)
    (fun _ _ _ => False)
    (OwnFrom.and (OwnFrom.and (Own.from (CP.own _ _ _ _ _ _) _) (Own.from (boxed_own _ _ _) _)) (ownFrom_below (Nat.le_refl _) (by omega)))
    (fun _ _ _ _ _ hs _ _ => hs)
    ⟨⟨⟨_, [], c0, World.ownsRow_nil _ _ _ _, ⟨rfl, fun (i : Nat) (x : Nat × Nat) h => by simp at h⟩⟩, b1⟩, hB0⟩
    (fun x => { tmps := #[.slice A n c, undef, .slice none 0 0, .pointer (some ⟨w.heap.size, 0, none⟩), encV A c xs.length x, .slice A n c, .func (.func 19) #[] #[.pointer (some ⟨w.heap.size + 1, 0, none⟩)], encV A c xs.length x, undef, undef, undef, undef, undef, undef], defers := [] }) ?assign ?body ?done ?stop
  case assign =>
    intro l x W K hK
    gi_wp2
    exact hK
  case body =>
    rintro l pre x W ⟨⟨⟨v, vs, d0, hrow, hcp⟩, d1⟩, hB⟩ hlt
    have hd : 1 ≤ m - 1 - 1 := by omega
    have hmx : Tryd.prog.follows .mixedOrders = true := by kernel_rfl
    have hpos : 0 < x.1.2 - x.1.1 := by have := x.2.1; omega
    have hm1 : pre.length + 1 ≤ maxLen := by have := HN.out; unfold maxLen; omega
    have hm2 : (pre.length + 1) * 24 ≤ 140737488355328 := by have := HN.out; omega
    have HT : Hid (∀ W1, Below W.heap.size W W1 → Calls Tryd.prog 18 #[encV A c xs.length x] W1 (ClonePost (piece xs x.1) W1)) := Lib.hid fun W1 h1 =>
      clone_any _ _ _ _ (piece_len xs rfl x) hpos (by have := x.2.2; have := HN.out; omega) W1 (((RS.piece (hR.below hB) x).below (h1.mono hB.size)).more (Nat.le_trans hB.size h1.size))
    have HV : Hid (encV A c xs.length x = .slice (A.map fun a => ⟨a.block, a.off + x.1.1, none⟩) (x.1.2 - x.1.1) (c - x.1.1)) := Lib.hid rfl
    have HPL := Lib.hid (piece_len xs rfl x)
    have HBS : Hid (∀ (w1 : World) (o : Obj), W.heap.size ≤ w1.heap.size → w.heap.size + 2 ≤ (w1.alloc o).heap.size) := Lib.hid fun w1 o h => by have := d1.lt; simp; omega
    have HX : Hid ((pre ++ [x]).map (·.1) = pre.map (·.1) ++ [x.1]) := Lib.hid (by rw [List.map_append]; rfl)
    have hd0 := d0.cell
    clear hT hR hT0 hR0 c0 b1 hB0
    unfold ClonePost at HT
    rw [← HPL.out] at HT
    rw [HV.out] at HT ⊢
    clear HV
    gi_wp2
    refine wpIn_region_any hmx ?_
    try (change wpAnyIn _ _ _ _ _ _ _ _ _ (World.drew _))
    refine wpAnyIn_ready (rs := [0, 1]) (by kernel_rfl) (by simp) ?_
    refine AllReadyIn.cons rfl (fun K hK => ?_) ?_
    · go_simp
      refine hK _ _ ?_
      clear hK K
      refine wpAnyIn_ready (rs := [1]) (by kernel_rfl) (by simp) ?_
      refine AllReadyIn.cons rfl (fun K hK => ?_) AllReadyIn.nil
      go_simp
      refine hK _ _ ?_
      clear hK K
      refine wpAnyIn_ready (rs := [2]) (by kernel_rfl) (by simp) ?_
      refine AllReadyIn.cons rfl (fun K hK => ?_) AllReadyIn.nil
      go_simp
      gi_wp2_with (refine ⟨trivial, ?_⟩; gi_at_call 18; refine (CallsIn.inRound l (callsIn_wide.2 (HT.out _ (Below.refl _ _).drew))).mono ?_; rintro e w1 ⟨u, rfl, hu, hb1⟩; obtain ⟨bu, cu, rfl⟩ := ownsRow_succ' hpos hu; have hrow1 := ownsRow_below' (World.ownsRow.drew hrow) hb1; have g0 := Boxed.below (W := W.drew) d0 hb1; have hg0 := g0.cell; have hga := (g0.alloc (.cells #[.slice (some ⟨bu, 0, none⟩) (x.1.2 - x.1.1) cu] 24)).cell)
      refine wpAnyIn_ready (rs := [3]) (by kernel_rfl) (by simp) ?_
      refine AllReadyIn.cons rfl (fun K hK => ?_) AllReadyIn.nil
      go_simp
      refine hK _ _ ?_
      clear hK K
      refine wpAnyIn_ready (rs := [4]) (by kernel_rfl) (by simp) ?_
      refine AllReadyIn.cons rfl (fun K hK => ?_) AllReadyIn.nil
      refine stepIn_append_own _ rfl _ _ 34 rfl (w.heap.size + 2) 24 i0 (.slice none 0 0) 1 24 Tryd.underlying34 hi hz0 hz1 hz2 rfl (by decide) _ _ _ rfl (hrow1.alloc _) ⟨w1.heap.size, 0, none⟩ 1 1 [_] rfl rfl (cell_one_new _ _ _) (by simp [Value.oneCell']) hm1 hm2 (HBS.out _ _ hb1.size) ?_
      intro v' w2 hown' hgrow
      obtain ⟨gv, cv, rfl⟩ := ownsRow_succ hown'
      refine hK _ _ ?_
      clear hK K
      obtain ⟨hv1, hst⟩ := cl_step x.1 hB d0 d1 hrow hcp ((Below.refl _ W).drew.trans hb1) hu hown' hgrow
      have hcv := hv1.cell
      have hfv := hv1.frozen
      refine wpAnyIn_ready (rs := [5]) (by kernel_rfl) (by simp) ?_
      refine AllReadyIn.cons rfl (fun K hK => ?_) AllReadyIn.nil
      go_simp
      refine hK _ _ ?_
      clear hK K
      refine wpAnyIn_done (by kernel_rfl) ?_ _
      gi_wp2
      exact cl_leaf HX hst
    refine AllReadyIn.cons rfl (fun K hK => ?_) AllReadyIn.nil
    go_simp
    refine hK _ _ ?_
    clear hK K
    refine wpAnyIn_ready (rs := [0, 2]) (by kernel_rfl) (by simp) ?_
    refine AllReadyIn.cons rfl (fun K hK => ?_) ?_
    · go_simp
      refine hK _ _ ?_
      clear hK K
      refine wpAnyIn_ready (rs := [2]) (by kernel_rfl) (by simp) ?_
      refine AllReadyIn.cons rfl (fun K hK => ?_) AllReadyIn.nil
      go_simp
      gi_wp2_with (refine ⟨trivial, ?_⟩; gi_at_call 18; refine (CallsIn.inRound l (callsIn_wide.2 (HT.out _ (Below.refl _ _).drew))).mono ?_; rintro e w1 ⟨u, rfl, hu, hb1⟩; obtain ⟨bu, cu, rfl⟩ := ownsRow_succ' hpos hu; have hrow1 := ownsRow_below' (World.ownsRow.drew hrow) hb1; have g0 := Boxed.below (W := W.drew) d0 hb1; have hg0 := g0.cell; have hga := (g0.alloc (.cells #[.slice (some ⟨bu, 0, none⟩) (x.1.2 - x.1.1) cu] 24)).cell)
      refine wpAnyIn_ready (rs := [3]) (by kernel_rfl) (by simp) ?_
      refine AllReadyIn.cons rfl (fun K hK => ?_) AllReadyIn.nil
      go_simp
      refine hK _ _ ?_
      clear hK K
      refine wpAnyIn_ready (rs := [4]) (by kernel_rfl) (by simp) ?_
      refine AllReadyIn.cons rfl (fun K hK => ?_) AllReadyIn.nil
      refine stepIn_append_own _ rfl _ _ 34 rfl (w.heap.size + 2) 24 i0 (.slice none 0 0) 1 24 Tryd.underlying34 hi hz0 hz1 hz2 rfl (by decide) _ _ _ rfl (hrow1.alloc _) ⟨w1.heap.size, 0, none⟩ 1 1 [_] rfl rfl (cell_one_new _ _ _) (by simp [Value.oneCell']) hm1 hm2 (HBS.out _ _ hb1.size) ?_
      intro v' w2 hown' hgrow
      obtain ⟨gv, cv, rfl⟩ := ownsRow_succ hown'
      refine hK _ _ ?_
      clear hK K
      obtain ⟨hv1, hst⟩ := cl_step x.1 hB d0 d1 hrow hcp ((Below.refl _ W).drew.trans hb1) hu hown' hgrow
      have hcv := hv1.cell
      have hfv := hv1.frozen
      refine wpAnyIn_ready (rs := [5]) (by kernel_rfl) (by simp) ?_
      refine AllReadyIn.cons rfl (fun K hK => ?_) AllReadyIn.nil
      go_simp
      refine hK _ _ ?_
      clear hK K
      refine wpAnyIn_done (by kernel_rfl) ?_ _
      gi_wp2
      exact cl_leaf HX hst
    refine AllReadyIn.cons rfl (fun K hK => ?_) AllReadyIn.nil
    go_simp
    gi_wp2_with (refine ⟨trivial, ?_⟩; gi_at_call 18; refine (CallsIn.inRound l (callsIn_wide.2 (HT.out _ (Below.refl _ _).drew))).mono ?_; rintro e w1 ⟨u, rfl, hu, hb1⟩; obtain ⟨bu, cu, rfl⟩ := ownsRow_succ' hpos hu; have hrow1 := ownsRow_below' (World.ownsRow.drew hrow) hb1; have g0 := Boxed.below (W := W.drew) d0 hb1; have hg0 := g0.cell; have hga := (g0.alloc (.cells #[.slice (some ⟨bu, 0, none⟩) (x.1.2 - x.1.1) cu] 24)).cell)
    refine wpAnyIn_ready (rs := [0, 3]) (by kernel_rfl) (by simp) ?_
    refine AllReadyIn.cons rfl (fun K hK => ?_) ?_
    · go_simp
      refine hK _ _ ?_
      clear hK K
      refine wpAnyIn_ready (rs := [3]) (by kernel_rfl) (by simp) ?_
      refine AllReadyIn.cons rfl (fun K hK => ?_) AllReadyIn.nil
      go_simp
      refine hK _ _ ?_
      clear hK K
      refine wpAnyIn_ready (rs := [4]) (by kernel_rfl) (by simp) ?_
      refine AllReadyIn.cons rfl (fun K hK => ?_) AllReadyIn.nil
      refine stepIn_append_own _ rfl _ _ 34 rfl (w.heap.size + 2) 24 i0 (.slice none 0 0) 1 24 Tryd.underlying34 hi hz0 hz1 hz2 rfl (by decide) _ _ _ rfl (hrow1.alloc _) ⟨w1.heap.size, 0, none⟩ 1 1 [_] rfl rfl (cell_one_new _ _ _) (by simp [Value.oneCell']) hm1 hm2 (HBS.out _ _ hb1.size) ?_
      intro v' w2 hown' hgrow
      obtain ⟨gv, cv, rfl⟩ := ownsRow_succ hown'
      refine hK _ _ ?_
      clear hK K
      obtain ⟨hv1, hst⟩ := cl_step x.1 hB d0 d1 hrow hcp ((Below.refl _ W).drew.trans hb1) hu hown' hgrow
      have hcv := hv1.cell
      have hfv := hv1.frozen
      refine wpAnyIn_ready (rs := [5]) (by kernel_rfl) (by simp) ?_
      refine AllReadyIn.cons rfl (fun K hK => ?_) AllReadyIn.nil
      go_simp
      refine hK _ _ ?_
      clear hK K
      refine wpAnyIn_done (by kernel_rfl) ?_ _
      gi_wp2
      exact cl_leaf HX hst
    refine AllReadyIn.cons rfl (fun K hK => ?_) AllReadyIn.nil
    go_simp
    refine hK _ _ ?_
    clear hK K
    refine wpAnyIn_ready (rs := [0]) (by kernel_rfl) (by simp) ?_
    refine AllReadyIn.cons rfl (fun K hK => ?_) AllReadyIn.nil
    go_simp
    refine hK _ _ ?_
    clear hK K
    refine wpAnyIn_ready (rs := [4]) (by kernel_rfl) (by simp) ?_
    refine AllReadyIn.cons rfl (fun K hK => ?_) AllReadyIn.nil
    refine stepIn_append_own _ rfl _ _ 34 rfl (w.heap.size + 2) 24 i0 (.slice none 0 0) 1 24 Tryd.underlying34 hi hz0 hz1 hz2 rfl (by decide) _ _ _ rfl (hrow1.alloc _) ⟨w1.heap.size, 0, none⟩ 1 1 [_] rfl rfl (cell_one_new _ _ _) (by simp [Value.oneCell']) hm1 hm2 (HBS.out _ _ hb1.size) ?_
    intro v' w2 hown' hgrow
    obtain ⟨gv, cv, rfl⟩ := ownsRow_succ hown'
    refine hK _ _ ?_
    clear hK K
    obtain ⟨hv1, hst⟩ := cl_step x.1 hB d0 d1 hrow hcp ((Below.refl _ W).drew.trans hb1) hu hown' hgrow
    have hcv := hv1.cell
    have hfv := hv1.frozen
    refine wpAnyIn_ready (rs := [5]) (by kernel_rfl) (by simp) ?_
    refine AllReadyIn.cons rfl (fun K hK => ?_) AllReadyIn.nil
    go_simp
    refine hK _ _ ?_
    clear hK K
    refine wpAnyIn_done (by kernel_rfl) ?_ _
    gi_wp2
    exact cl_leaf HX hst
  case done =>
    rintro D ys W hD hS ⟨⟨⟨v, vs, d0, hrow, hcp⟩, d1⟩, hB⟩ hK
    have hd0 := d0.cell
    have HL : Hid (ys.length = (pairs xs).length) := Lib.hid (by rw [← hS, List.length_map])
    have HS := Lib.hid hS
    clear hS
    gi_wp2
    refine ⟨by simp, .inl ⟨_, _, rfl, run_takeDeferred hK, ?_⟩⟩
    exact ⟨_, results_tmp rfl _ _ _, v, vs, rfl, ownsRow_base (ownsRow_putObj (HL.out ▸ hrow) _ hK rfl) (by omega), CP.kept (HS.out ▸ hcp) (grownBy_putObj' _ D _) (fun r e cur h => by cases e; rw [hK] at h; cases h), hB.trans (belowK_b (w := w) (Nat.le_refl _) W D _ _ (by omega) hK rfl rfl)⟩
  case stop =>
    rintro D cc pre W _ _ h _
    exact h.elim


theorem clustersFn_any (A : Option Addr) (xs : List Int) (n c : Nat) (hn : n = xs.length) (hlen : n ≤ 100000) (hcap : n ≤ c) (hc47 : c ≤ 9223372036854775807) (w : World) (hT : WT w) (hR : RS w w.heap.size A xs) :
    Calls Tryd.prog 11 #[.slice A n c] w (ClPost xs w) :=
  (callsIn_wide (n := 3)).1 (clustersFn_in 3 (by omega) A xs n c hn hlen hcap hc47 w hT hR)

end Go.Proofs.YtacmldggdacdpabDoor
