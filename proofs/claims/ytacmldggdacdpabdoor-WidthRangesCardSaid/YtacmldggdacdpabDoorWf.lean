/- The walk of width.Fit. -/
import Derived.Test.YtacmldggdacdpabDoorWe
namespace Go.Proofs.YtacmldggdacdpabDoor
open Go.RowKit Go.Shelf
attribute [local go_sem] Oper.semAt_some

/-- The scalars of one cluster; how many they are; what they take. -/
def piece (xs : List Int) (x : Nat × Nat) : List Int := (xs.drop x.1).take (x.2 - x.1)
def nOf (l : List (Nat × Nat)) : Nat := (l.map fun x => x.2 - x.1).sum
def usedOf (xs : List Int) (l : List (Nat × Nat)) : Int := (l.map fun x => textZ (piece xs x)).sum
theorem nOf_snoc (l : List (Nat × Nat)) (x : Nat × Nat) : nOf (l ++ [x]) = nOf l + (x.2 - x.1) := by simp [nOf]
theorem usedOf_snoc (xs : List Int) (l : List (Nat × Nat)) (x : Nat × Nat) : usedOf xs (l ++ [x]) = usedOf xs l + textZ (piece xs x) := by simp [usedOf]
theorem piece_bd (xs : List Int) (x : Nat × Nat) : 0 ≤ textZ (piece xs x) ∧ textZ (piece xs x) ≤ 2 * xs.length := by
  have h := textZ_bd (piece xs x)
  have : (piece xs x).length ≤ xs.length := by simp [piece]; omega
  omega
theorem usedOf_bd (xs : List Int) (l : List (Nat × Nat)) : 0 ≤ usedOf xs l ∧ usedOf xs l ≤ l.length * (2 * xs.length : Int) := by
  induction l with
  | nil => simp [usedOf]
  | cons x l ih =>
    have h := piece_bd xs x
    have e : usedOf xs (x :: l) = textZ (piece xs x) + usedOf xs l := rfl
    rw [e, List.length_cons, Int.natCast_add, Int.add_mul]
    omega
theorem nOf_bd (n : Nat) (l : List (Pc n)) : nOf (l.map (·.1)) ≤ l.length * n := by
  induction l with
  | nil => simp [nOf]
  | cons x l ih =>
    have e : nOf ((x :: l).map (·.1)) = (x.1.2 - x.1.1) + nOf (l.map (·.1)) := rfl
    have := x.2.2
    rw [e, List.length_cons, Nat.add_mul]
    omega
theorem _root_.Go.Boxed.below {W W' : World} {B : Nat} {t : TypeId} {v : Value} (h : Boxed W B t v) (hb : Below W.heap.size W W') : Boxed W' B t v := (hb.block B h.lt).trans h
theorem keeps_below {W W' : World} (hb : Below W.heap.size W W') : KeepsOthers W W' := ⟨hb.size, fun k _ hk _ => (hb.block k (Array.getElem?_eq_some_iff.1 hk).1).trans hk⟩
/-- What Fit answers: as many clusters as can be. -/
def FitIs (cols : Int) (xs : List Int) (N : Nat) : Prop :=
  ∃ q : List (Nat × Nat), q <+: pairs xs ∧ N = nOf q ∧ (usedOf xs q ≤ cols ∨ q = []) ∧ (q = pairs xs ∨ ∃ x, q ++ [x] <+: pairs xs ∧ cols < usedOf xs (q ++ [x]))
def FitPost (cols : Int) (xs : List Int) (w : World) (e : Ending) (w' : World) : Prop := ∃ N : Nat, e = .returned (.int .i64 N) ∧ FitIs cols xs N ∧ Below w.heap.size w w'

/-- A cluster's own slice reads as the cluster's scalars. -/
theorem RS.piece {w : World} {B : Nat} {A : Option Addr} {xs : List Int} (h : RS w B A xs) (x : Pc xs.length) :
    RS w B (A.map fun a => ⟨a.block, a.off + x.1.1, none⟩) (piece xs x.1) := fun hn => by
  have hx : xs ≠ [] := by rintro rfl; exact hn (by simp [Go.Proofs.YtacmldggdacdpabDoor.piece])
  obtain ⟨b, off, rfl, hb, hc⟩ := h hx
  refine ⟨b, off + x.1.1, rfl, hb, fun k hk => ?_⟩
  have hk' : k < x.1.2 - x.1.1 := by simp [Go.Proofs.YtacmldggdacdpabDoor.piece] at hk; omega
  rw [Nat.add_assoc]
  have e : (Go.Proofs.YtacmldggdacdpabDoor.piece xs x.1)[k]? = xs[x.1.1 + k]? := by
    simp only [Go.Proofs.YtacmldggdacdpabDoor.piece, List.getElem?_take, List.getElem?_drop, if_pos hk']
  rw [e]
  exact hc _ (by have := x.2.2; omega)
theorem piece_len {n : Nat} (xs : List Int) (hn : n = xs.length) (x : Pc n) : x.1.2 - x.1.1 = (piece xs x.1).length := by
  have := x.2.1; have := x.2.2
  simp [piece]; omega

set_option maxRecDepth 100000 in
set_option maxHeartbeats 2000000 in
theorem fit_in (m : Nat) (hm : 3 ≤ m) (cols : Int) (A : Option Addr) (xs : List Int) (n c : Nat) (hn : n = xs.length) (hlen : n ≤ 100000) (hcap : n ≤ c) (hc47 : c ≤ 9223372036854775807) (w : World) (hT : WT w) (hR : RS w w.heap.size A xs) :
    CallsIn Fence.wide m Tryd.prog 10 #[.int .i64 cols, .slice A n c] w (FitPost cols xs w) := by
  have h1 : 1 ≤ m := by omega
  refine callsIn_of_wp_marks Tryd.func10 rfl trivial ?_ rfl
  simp only [Tryd.ntmps10, List.size_toArray, List.length_cons, List.length_nil, Nat.reduceAdd, Nat.reduceSub, Array.replicate_succ, Array.replicate_zero, List.push_toArray, List.append_toArray, List.nil_append, List.cons_append]
  have HN := Lib.hid hn
  clear hn
  gi_wp2_with (refine ⟨trivial, ?_⟩; gi_at_call 17; refine (clusters_in (m - 1) _ _ _ _).mono ?_; rintro e w' ⟨rfl, rfl⟩)
  have b0 := Boxed.new w 3 (.int .i64 cols)
  have b1 := Boxed.new (w.alloc (.cells #[.int .i64 cols] 3)) 3 (.int .i64 0)
  have b2 := Boxed.new ((w.alloc (.cells #[.int .i64 cols] 3)).alloc (.cells #[.int .i64 0] 3)) 3 (.int .i64 0)
  have b3 := Boxed.new (((w.alloc (.cells #[.int .i64 cols] 3)).alloc (.cells #[.int .i64 0] 3)).alloc (.cells #[.int .i64 0] 3)) 24 (.slice A n c)
  simp only [World.size_alloc] at b1 b2 b3
  have hB0 : Below w.heap.size w ((((w.alloc (.cells #[.int .i64 cols] 3)).alloc (.cells #[.int .i64 0] 3)).alloc (.cells #[.int .i64 0] 3)).alloc (.cells #[.slice A n c] 24)) :=
    ((((Below.refl _ w).alloc (Nat.le_refl _) _).alloc (by simp) _).alloc (by simp; omega) _).alloc (by simp; omega) _
  have hT0 := hT.below hB0
  have hR0 := hR.below hB0
  have h2 : 2 ≤ w.heap.size := by have := hT.2.1; omega
  have c0 : Boxed ((((w.alloc (.cells #[.int .i64 cols] 3)).alloc (.cells #[.int .i64 0] 3)).alloc (.cells #[.int .i64 0] 3)).alloc (.cells #[.slice A n c] 24)) w.heap.size 3 (.int .i64 cols) := ((b0.alloc _).alloc _).alloc _
  have c1 : Boxed ((((w.alloc (.cells #[.int .i64 cols] 3)).alloc (.cells #[.int .i64 0] 3)).alloc (.cells #[.int .i64 0] 3)).alloc (.cells #[.slice A n c] 24)) (w.heap.size + 1) 3 (.int .i64 0) := (b1.alloc _).alloc _
  have c2 : Boxed ((((w.alloc (.cells #[.int .i64 cols] 3)).alloc (.cells #[.int .i64 0] 3)).alloc (.cells #[.int .i64 0] 3)).alloc (.cells #[.slice A n c] 24)) (w.heap.size + 1 + 1) 3 (.int .i64 0) := b2.alloc _
  have hsz : ((((w.alloc (.cells #[.int .i64 cols] 3)).alloc (.cells #[.int .i64 0] 3)).alloc (.cells #[.int .i64 0] 3)).alloc (.cells #[.slice A n c] 24)).heap.size = w.heap.size + 4 := by simp
  clear b0 b1 b2
  generalize ((((w.alloc (.cells #[.int .i64 cols] 3)).alloc (.cells #[.int .i64 0] 3)).alloc (.cells #[.int .i64 0] 3)).alloc (.cells #[.slice A n c] 24)) = W0 at hB0 hT0 hR0 c0 c1 c2 b3 hsz ⊢
  refine wpIn_rangeFunc_ownG rfl h1 (gf := 19) (lb := #[.pointer (some ⟨w.heap.size + 1 + 1 + 1, 0, none⟩)]) rfl trivial (enters_of Tryd.func19 (by kernel_rfl) rfl)
    (clusters_stops (m - 1) (by omega) (w.heap.size + 1 + 1 + 1) w.heap.size A xs c (by have := HN.out; omega) hc47 W0 h2 (by omega) (by omega) hT0 hR0 (by rw [← HN.out]; exact b3.cell)) KpB.trans (KpB.put (by omega) (by omega)) (Below.refl _ _) (fun _ => rfl)
    (fun pre W => (Boxed W (w.heap.size + 1 + 1 + 1) 24 (.slice A n c) ∧ Boxed W w.heap.size 3 (.int .i64 cols) ∧ Boxed W (w.heap.size + 1) 3 (.int .i64 (nOf (pre.map (·.1)))) ∧ Boxed W (w.heap.size + 1 + 1) 3 (.int .i64 (usedOf xs (pre.map (·.1)))) ∧ (usedOf xs (pre.map (·.1)) ≤ cols ∨ pre.map (·.1) = [])) ∧ Below w.heap.size w W)
    (fun cc pre W => cc = .exit 0 ∧ (∃ q x, pre.map (·.1) = q ++ [x] ∧ Boxed W (w.heap.size + 1) 3 (.int .i64 (nOf q)) ∧ (usedOf xs q ≤ cols ∨ q = []) ∧ cols < usedOf xs (q ++ [x])) ∧ Below w.heap.size w W)
    ?hI ?hIx ?h0
    (fun x => { tmps := #[.int .i64 cols, .slice A n c, .pointer (some ⟨w.heap.size, 0, none⟩), undef, .int .i64 0, .pointer (some ⟨w.heap.size + 1, 0, none⟩), .pointer (some ⟨w.heap.size + 1 + 1, 0, none⟩), encV A c xs.length x, .slice A n c, .func (.func 19) #[] #[.pointer (some ⟨w.heap.size + 1 + 1 + 1, 0, none⟩)], encV A c xs.length x, undef, undef, undef, undef, undef, undef, undef, undef, undef, undef, undef, undef], defers := [] }) ?assign ?body ?done ?stop
  case hI => exact OwnFrom.and (OwnFrom.and (Own.from (boxed_own _ _ _) _) (OwnFrom.and (Own.from (boxed_own _ _ _) _) (OwnFrom.and (Own.from (boxed_own _ _ _) _) (OwnFrom.and (Own.from (boxed_own _ _ _) _) (ownFrom_pure _ _))))) (ownFrom_below (Nat.le_refl _) (by omega))
  case hIx =>
    intro _
    refine OwnFrom.and (ownFrom_pure _ _) (OwnFrom.and ?_ (ownFrom_below (Nat.le_refl _) (by omega)))
    rintro s X Y row ⟨q, x, e, hb, hu⟩ hg hr
    exact ⟨q, x, e, boxed_own _ _ (fun _ : Unit => .int .i64 (nOf q)) () X Y row hb hg (fun r e => (hr r e).2), hu⟩
  case h0 => exact ⟨⟨b3, c0, c1, c2, .inr rfl⟩, hB0⟩
  case assign =>
    intro l x W K hK
    gi_wp2
    exact hK
  case body =>
    rintro l pre x W ⟨⟨d3, d0, d1, d2, hq⟩, hB⟩ hlt
    have hd : 1 ≤ m - 1 - 1 := by omega
    have hmx : Tryd.prog.follows .mixedOrders = true := by kernel_rfl
    have HT : Hid (∀ W1, Below W.heap.size W W1 → Calls Tryd.prog 9 #[encV A c xs.length x] W1 fun e w' => e = .returned (.int .i64 (textZ (piece xs x.1))) ∧ Below W1.heap.size W1 w') := Lib.hid fun W1 h1 =>
      text_any _ _ _ _ (piece_len xs rfl x) (by have := x.2.2; have := HN.out; omega) W1 ((hT.below hB).below h1) (((RS.piece (hR.below hB) x).below (h1.mono hB.size)).more (Nat.le_trans hB.size h1.size))
    have HV : Hid (encV A c xs.length x = .slice (A.map fun a => ⟨a.block, a.off + x.1.1, none⟩) (x.1.2 - x.1.1) (c - x.1.1)) := Lib.hid rfl
    obtain ⟨hu0, hu1⟩ := usedOf_bd xs (pre.map (·.1))
    obtain ⟨hz0, hz1⟩ := piece_bd xs x.1
    have hn0 : nOf (pre.map (·.1)) ≤ 100000 * 100000 := by
      have := nOf_bd xs.length pre
      have h3 : pre.length * xs.length ≤ 100000 * 100000 := Nat.mul_le_mul (by have := HN.out; omega) (by have := HN.out; omega)
      omega
    have hu2 : usedOf xs (pre.map (·.1)) ≤ 20000000000 := by
      have h3 : pre.length * xs.length ≤ 100000 * 100000 := Nat.mul_le_mul (by have := HN.out; omega) (by have := HN.out; omega)
      have h4 : ((pre.map (·.1)).length : Int) * (2 * xs.length : Int) = 2 * ((pre.length * xs.length : Nat) : Int) := by
        rw [List.length_map, Int.natCast_mul, ← Int.mul_assoc, Int.mul_comm (pre.length : Int) 2, Int.mul_assoc]
      omega
    have hz2 : textZ (piece xs x.1) ≤ 200000 := by have := HN.out; omega
    have hl1 : x.1.2 - x.1.1 ≤ 100000 := by have := x.2.2; have := HN.out; omega
    have HS : Hid (usedOf xs ((pre ++ [x]).map (·.1)) = usedOf xs (pre.map (·.1)) + textZ (piece xs x.1)) := Lib.hid (by rw [List.map_append]; exact usedOf_snoc xs _ _)
    have HM : Hid (nOf ((pre ++ [x]).map (·.1)) = nOf (pre.map (·.1)) + (x.1.2 - x.1.1)) := Lib.hid (by rw [List.map_append]; exact nOf_snoc _ _)
    have HX : Hid ((pre ++ [x]).map (·.1) = pre.map (·.1) ++ [x.1]) := Lib.hid (by rw [List.map_append]; rfl)
    have HXN : ∀ u z, usedOf xs (pre.map (·.1)) = u → textZ (piece xs x.1) = z → Hid (usedOf xs (pre.map (·.1) ++ [x.1]) = u + z) := fun u z e1 e2 => Lib.hid (by rw [usedOf_snoc, e1, e2])
    have HXN := HXN _ _ rfl rfl
    have hd0 := d0.cell
    have hd1 := d1.cell
    have hd2 := d2.cell
    clear hT hR hT0 hR0 c0 c1 c2 b3 hB0 hu1 hz1
    rw [HV.out] at HT ⊢
    clear HV
    generalize hpm : pre.map (·.1) = pm at *
    generalize huu : usedOf xs pm = u at *
    generalize hnn : nOf pm = nn at *
    generalize textZ (piece xs x.1) = z at *
    generalize x.1.2 - x.1.1 = dl at *
    generalize (A.map fun a => (⟨a.block, a.off + x.1.1, none⟩ : Addr)) = A' at *
    have HPM := Lib.hid hpm
    have HUU := Lib.hid huu
    have HNN := Lib.hid hnn
    clear hpm huu hnn
    by_cases hle : cols < u + z
    · have HXN' : Hid (cols < usedOf xs (pm ++ [x.1])) := Lib.hid (by rw [HXN.out]; exact hle)
      gi_wp2
      gi_region_with_o (refine ⟨trivial, ?_⟩; gi_at_call 9; refine (CallsIn.inRound l (callsIn_wide.2 (HT.out _ (Below.refl _ _).drew))).mono ?_; rintro e w1 ⟨rfl, hb1⟩; have g3 := Boxed.below (W := W.drew) d3 hb1; have g0 := Boxed.below (W := W.drew) d0 hb1; have g1 := Boxed.below (W := W.drew) d1 hb1; have g2 := Boxed.below (W := W.drew) d2 hb1; have hg0 := g0.cell; have hg1 := g1.cell; have hg2 := g2.cell; have hf1 := g1.frozen; have hf2 := g2.frozen)
      all_goals
        rw [IntWalk.i64_in (u + z) (by omega)]
        have k2 := g2.set (.int .i64 (u + z))
        have k0 := g0.other (B' := w.heap.size + 1 + 1) (by omega) (.int .i64 (u + z))
        have k3 := g3.other (B' := w.heap.size + 1 + 1) (by omega) (.int .i64 (u + z))
        have k1 := g1.other (B' := w.heap.size + 1 + 1) (by omega) (.int .i64 (u + z))
        have hBw : Below w.heap.size W (w1.setCell ⟨w.heap.size + 1 + 1, 0, none⟩ (.int .i64 (u + z))) := ((Below.refl _ W).drew.trans (Below.mono (B' := w.heap.size) hb1 hB.size)).setCell (by show w.heap.size ≤ w.heap.size + 1 + 1; omega) _
        have hKw : KeepsOthers W (w1.setCell ⟨w.heap.size + 1 + 1, 0, none⟩ (.int .i64 (u + z))) := ((KeepsOthers.drew W).trans (keeps_below hb1)).trans (KeepsOthers.setCell _ _ _)
        clear hd0 hd1 hd2 hg0 hg1 hg2 hf1 hf2 g0 g1 g2 g3 hb1
        generalize (w1.setCell ⟨w.heap.size + 1 + 1, 0, none⟩ (.int .i64 (u + z))) = w2 at *
        have kc0 := k0.cell
        have kc1 := k1.cell
        have kc2 := k2.cell
        have kf1 := k1.frozen
        gi_wp2
        exact ⟨hKw.from _, rfl, ⟨pm, x.1, HX.out, by rw [HNN.out]; exact k1, by rw [HUU.out]; exact hq, HXN'.out⟩, hB.trans hBw⟩
    · have HU : Hid (usedOf xs ((pre ++ [x]).map (·.1)) ≤ cols) := Lib.hid (by rw [HS.out]; omega)
      gi_wp2
      gi_region_with_o (refine ⟨trivial, ?_⟩; gi_at_call 9; refine (CallsIn.inRound l (callsIn_wide.2 (HT.out _ (Below.refl _ _).drew))).mono ?_; rintro e w1 ⟨rfl, hb1⟩; have g3 := Boxed.below (W := W.drew) d3 hb1; have g0 := Boxed.below (W := W.drew) d0 hb1; have g1 := Boxed.below (W := W.drew) d1 hb1; have g2 := Boxed.below (W := W.drew) d2 hb1; have hg0 := g0.cell; have hg1 := g1.cell; have hg2 := g2.cell; have hf1 := g1.frozen; have hf2 := g2.frozen)
      all_goals
        rw [IntWalk.i64_in (u + z) (by omega)]
        have k2 := g2.set (.int .i64 (u + z))
        have k0 := g0.other (B' := w.heap.size + 1 + 1) (by omega) (.int .i64 (u + z))
        have k3 := g3.other (B' := w.heap.size + 1 + 1) (by omega) (.int .i64 (u + z))
        have k1 := g1.other (B' := w.heap.size + 1 + 1) (by omega) (.int .i64 (u + z))
        have hBw : Below w.heap.size W (w1.setCell ⟨w.heap.size + 1 + 1, 0, none⟩ (.int .i64 (u + z))) := ((Below.refl _ W).drew.trans (Below.mono (B' := w.heap.size) hb1 hB.size)).setCell (by show w.heap.size ≤ w.heap.size + 1 + 1; omega) _
        have hKw : KeepsOthers W (w1.setCell ⟨w.heap.size + 1 + 1, 0, none⟩ (.int .i64 (u + z))) := ((KeepsOthers.drew W).trans (keeps_below hb1)).trans (KeepsOthers.setCell _ _ _)
        clear hd0 hd1 hd2 hg0 hg1 hg2 hf1 hf2 g0 g1 g2 g3 hb1
        generalize (w1.setCell ⟨w.heap.size + 1 + 1, 0, none⟩ (.int .i64 (u + z))) = w2 at *
        have kc0 := k0.cell
        have kc1 := k1.cell
        have kc2 := k2.cell
        have kf1 := k1.frozen
        gi_wp2
        exact ⟨(hKw.trans (KeepsOthers.setCell _ _ _)).from _, ⟨hBw.setCell (p := ⟨w.heap.size + 1, 0, none⟩) (by show w.heap.size ≤ w.heap.size + 1; omega) _, (k3.other (by omega) _).trans d3.symm⟩, ⟨k3.other (by omega) _, k0.other (by omega) _, by rw [HM.out]; exact k1.set _, by rw [HS.out]; exact k2.other (by omega) _, .inl HU.out⟩, (hB.trans hBw).setCell (p := ⟨w.heap.size + 1, 0, none⟩) (by show w.heap.size ≤ w.heap.size + 1; omega) _⟩
  case done =>
    rintro D ys W hD hS ⟨⟨d3, d0, d1, d2, hq⟩, hB⟩ hK
    have hd1 := d1.cell
    have HF : Hid (FitIs cols xs (nOf (ys.map (·.1)))) := Lib.hid ⟨_, by rw [hS]; exact List.prefix_refl _, rfl, hq, .inl hS⟩
    clear hS hq d0 d2 d3
    generalize nOf (ys.map (·.1)) = nn at *
    gi_wp2
    refine ⟨by simp, .inl ⟨_, _, rfl, run_takeDeferred hK, ?_⟩⟩
    exact ⟨_, results_tmp rfl _ _ _, nn, rfl, HF.out, hB.trans (belowK_b (w := w) (Nat.le_refl _) W D _ _ (by omega) hK rfl rfl)⟩
  case stop =>
    rintro D cc pre W hD hS ⟨rfl, ⟨q, x, hp, d1, hq, hu⟩, hB⟩ hK
    have hd1 := d1.cell
    have HF : Hid (FitIs cols xs (nOf q)) := Lib.hid ⟨q, (List.prefix_append q [x]).trans (hp ▸ hS), rfl, hq, .inr ⟨x, hp ▸ hS, hu⟩⟩
    clear hS hq hp hu
    generalize nOf q = nn at *
    gi_wp2
    refine ⟨by simp, .inl ⟨_, _, rfl, run_takeDeferred hK, ?_⟩⟩
    exact ⟨_, results_tmp rfl _ _ _, nn, rfl, HF.out, hB.trans (belowK_b (w := w) (Nat.le_refl _) W D _ _ (by omega) hK rfl rfl)⟩

theorem fit_any (cols : Int) (A : Option Addr) (xs : List Int) (n c : Nat) (hn : n = xs.length) (hlen : n ≤ 100000) (hcap : n ≤ c) (hc47 : c ≤ 9223372036854775807) (w : World) (hT : WT w) (hR : RS w w.heap.size A xs) :
    Calls Tryd.prog 10 #[.int .i64 cols, .slice A n c] w (FitPost cols xs w) :=
  (callsIn_wide (n := 3)).1 (fit_in 3 (by omega) cols A xs n c hn hlen hcap hc47 w hT hR)

end Go.Proofs.YtacmldggdacdpabDoor
