/- The walks of utf.read and utf.All. -/
import Derived.Test.YtmmkcfjncpcabaaDoorUd
namespace Go.Proofs.YtmmkcfjncpcabaaDoor
open Go.RowKit Go.Shelf
attribute [local go_sem] Oper.semAt_some

theorem Tryd.infoRune : (Tryd.prog.info? 21).map (fun i => (i.zero, i.size, i.bytes)) = some (some (.int .i32 0), 1, 4) := by kernel_rfl
def encR (x : Nat × Nat) : Value := .int .i32 (x.1 : Nat)
def sumB (l : List (Nat × Nat)) : Nat := (l.map (·.2)).sum
theorem sumB_snoc (l : List (Nat × Nat)) (x : Nat × Nat) : sumB (l ++ [x]) = sumB l + x.2 := by simp [sumB]
theorem sumB_bd (l : List Sc) : sumB (l.map (·.1)) ≤ 4 * l.length := by
  induction l with
  | nil => simp [sumB]
  | cons x l ih =>
    have h := x.2
    have e : sumB ((x :: l).map (·.1)) = x.1.2 + sumB (l.map (·.1)) := rfl
    rw [e, List.length_cons]
    omega
theorem below_boxed {W W' : World} {B : Nat} {t : TypeId} {v : Value} (h : Boxed W B t v) (hb : Below W.heap.size W W') : Boxed W' B t v := (hb.block B h.lt).trans h
theorem ownsRow_below' {w w' : World} {base : Nat} {e : TypeId} {size : Nat} {v : Value} {n : Nat} {xs : List Value} (h : w.ownsRow base e size v n xs) (hb : Below w.heap.size w w') : w'.ownsRow base e size v n xs :=
  h.kept (row := none) (grown_of_below_u hb) (by cases hv : v.ownBlock <;> simp)
/-- What lies in the two boxes between two rounds. -/
def RdI (n₀ : Nat) (pre : List Sc) (W : World) : Prop :=
  (∃ v, Boxed W n₀ 67 v ∧ W.ownsRow n₀ 21 1 v pre.length ((pre.map (·.1)).map encR)) ∧ Boxed W (n₀ + 1) 3 (.int .i64 (sumB (pre.map (·.1))))
theorem RdI.own (n₀ : Nat) : Own (RdI n₀) := fun pre A C row ⟨⟨v, hb, ho⟩, hu⟩ hg hr => by
  obtain ⟨v', hb', ho', _⟩ := holdsRow_own n₀ n₀ 67 21 1 (fun pre : List Sc => pre.length) (fun pre : List Sc => (pre.map (·.1)).map encR) (fun _ _ => True) pre A C row ⟨v, hb, ho, trivial⟩ hg hr
  exact ⟨⟨v', hb', ho'⟩, boxed_own _ _ (fun pre : List Sc => .int .i64 (sumB (pre.map (·.1)))) pre A C row hu hg hr⟩
theorem RdI.nil {n₀ : Nat} {W : World} (c0 : Boxed W n₀ 67 (.slice none 0 0)) (c1 : Boxed W (n₀ + 1) 3 (.int .i64 0)) : RdI n₀ [] W := ⟨⟨_, c0, World.ownsRow_nil _ _ _ _⟩, c1⟩
theorem RdI.snoc {n₀ : Nat} {W : World} {pre : List Sc} {x : Sc} {v : Value} (h0 : Boxed W n₀ 67 v) (ho : W.ownsRow n₀ 21 1 v (pre.length + 1) ((pre.map (·.1)).map encR ++ [.int .i32 (x.1.1 : Nat)])) (h1 : Boxed W (n₀ + 1) 3 (.int .i64 ((sumB (pre.map (·.1)) : Nat) + (x.1.2 : Nat)))) : RdI n₀ (pre ++ [x]) W := by
  have e : (pre ++ [x]).map (·.1) = pre.map (·.1) ++ [x.1] := by rw [List.map_append]; rfl
  refine ⟨⟨v, h0, ?_⟩, ?_⟩
  · rw [e, List.map_append, List.length_append]
    exact ho
  · rw [e, sumB_snoc]
    simpa using h1
theorem below_drewN_u {B : Nat} {a w : World} (h : Below B a w) (n : Nat) : Below B a (w.drewN n) := ⟨h.os, h.tape, h.output, h.size, h.block⟩
def RdPost (zs : List Nat) (w : World) (e : Ending) (w' : World) : Prop :=
  ∃ v, e = .returned (.tuple #[v, .int .i64 (sumB (rdL zs))]) ∧ w'.ownsRow w.heap.size 21 1 v (rdL zs).length ((rdL zs).map encR) ∧ Below w.heap.size w w'

set_option maxRecDepth 100000 in
set_option maxHeartbeats 2000000 in
theorem read_in (m : Nat) (hm : 3 ≤ m) (A : Option Addr) (zs : List Nat) (n c : Nat) (hn : n = zs.length) (hlen : n ≤ 2000000) (hcap : n ≤ c) (h63 : c ≤ 9223372036854775807) (w : World) (h4 : max 0 1 + 1 ≤ w.heap.size) (hT : UT w) (hR : BS w w.heap.size A zs) :
    CallsIn Fence.wide m Tryd.prog 71 #[.slice A n c] w (RdPost zs w) := by
  have h1 : 1 ≤ m := by omega
  obtain ⟨i0, hi, hz0, hz1, hz2⟩ := info_parts Tryd.infoRune
  refine callsIn_of_wp_marks Tryd.func71 rfl trivial ?_ rfl
  simp only [Tryd.ntmps71, List.size_toArray, List.length_cons, List.length_nil, Nat.reduceAdd, Nat.reduceSub, Array.replicate_succ, Array.replicate_zero, List.push_toArray, List.append_toArray, List.nil_append, List.cons_append]
  have HN := Lib.hid hn
  clear hn
  gi_wp2_with (refine ⟨trivial, ?_⟩; gi_at_call 80; refine (settled_in (m - 1) _ _ _ _).mono ?_; rintro e w' ⟨rfl, rfl⟩)
  have b0 := Boxed.new w 67 (.slice none 0 0)
  have b1 := Boxed.new (w.alloc (.cells #[.slice none 0 0] 67)) 3 (.int .i64 0)
  have b2 := Boxed.new ((w.alloc (.cells #[.slice none 0 0] 67)).alloc (.cells #[.int .i64 0] 3)) 22 (.slice A n c)
  simp only [World.size_alloc] at b1 b2
  have hB0 : Below w.heap.size w (((w.alloc (.cells #[.slice none 0 0] 67)).alloc (.cells #[.int .i64 0] 3)).alloc (.cells #[.slice A n c] 22)) :=
    (((Below.refl _ w).alloc (Nat.le_refl _) _).alloc (by simp) _).alloc (by simp; omega) _
  have hT0 := hT.below hB0
  have hR0 := hR.below hB0
  have c0 : Boxed (((w.alloc (.cells #[.slice none 0 0] 67)).alloc (.cells #[.int .i64 0] 3)).alloc (.cells #[.slice A n c] 22)) w.heap.size 67 (.slice none 0 0) := (b0.alloc _).alloc _
  have c1 : Boxed (((w.alloc (.cells #[.slice none 0 0] 67)).alloc (.cells #[.int .i64 0] 3)).alloc (.cells #[.slice A n c] 22)) (w.heap.size + 1) 3 (.int .i64 0) := b1.alloc _
  have hsz : (((w.alloc (.cells #[.slice none 0 0] 67)).alloc (.cells #[.int .i64 0] 3)).alloc (.cells #[.slice A n c] 22)).heap.size = w.heap.size + 3 := by simp
  clear b0 b1
  generalize (((w.alloc (.cells #[.slice none 0 0] 67)).alloc (.cells #[.int .i64 0] 3)).alloc (.cells #[.slice A n c] 22)) = W0 at hB0 hT0 hR0 c0 c1 b2 hsz ⊢
  refine wpIn_rangeFunc_ownG rfl h1 (gf := 86) (lb := #[.pointer (some ⟨w.heap.size + 1 + 1, 0, none⟩)]) rfl trivial (enters_of Tryd.func86 (by kernel_rfl) rfl)
    (settled_stops (m - 1) (by omega) (w.heap.size + 1 + 1) w.heap.size A zs c (by have := HN.out; omega) h63 (by have := HN.out; omega) W0 h4 (by omega) (by omega) hT0 hR0 (by rw [← HN.out]; exact b2.cell)) belowK_t (belowK_b (by omega)) (Below.refl _ _) (fun _ => rfl)
    (fun pre W => RdI w.heap.size pre W ∧ Below w.heap.size w W)
    (fun _ _ _ => False)
    (OwnFrom.and (Own.from (RdI.own _) _) (ownFrom_below (Nat.le_refl _) (by omega)))
    (fun _ _ _ _ _ hs _ _ => hs)
    ⟨RdI.nil c0 c1, hB0⟩
    (fun x => { tmps := #[.slice A n c, undef, .slice none 0 0, .int .i64 0, .pointer (some ⟨w.heap.size, 0, none⟩), .pointer (some ⟨w.heap.size + 1, 0, none⟩), .int .i32 (x.1.1 : Nat), .int .i64 (x.1.2 : Nat), .slice A n c, .func (.func 86) #[] #[.pointer (some ⟨w.heap.size + 1 + 1, 0, none⟩)], .int .i32 (x.1.1 : Nat), .int .i64 (x.1.2 : Nat), undef, undef, undef, undef, undef, undef, undef, undef, undef], defers := [] }) ?assign ?body ?done ?stop
  case assign =>
    intro l x W K hK
    gi_wp2
    exact hK
  case body =>
    rintro l pre x W ⟨⟨⟨v, d0, hrow⟩, d1⟩, hB⟩ hlt
    have hd0 := d0.cell
    have hx4 := x.2
    have hsb := sumB_bd pre
    have hm1 : pre.length + 1 ≤ maxLen := by have := HN.out; unfold maxLen; omega
    have hm2 : (pre.length + 1) * 4 ≤ 140737488355328 := by have := HN.out; omega
    have hs2 : sumB (pre.map (·.1)) ≤ 8000000 := by have := HN.out; omega
    have hbs : w.heap.size ≤ (W.alloc (.cells #[.int .i32 (x.1.1 : Nat)] 21)).heap.size := by have := hB.size; simp; omega
    clear hT hR hT0 hR0 c0 c1 b2 hB0
    gi_wp2_with (gi_at_builtin; go_must (refine wpListIn_append_own _ rfl _ _ 67 rfl w.heap.size 21 i0 (.int .i32 0) 1 4 Tryd.underlying67 hi hz0 hz1 hz2 rfl (by decide) _ _ _ rfl (hrow.alloc _) ⟨W.heap.size, 0, none⟩ 1 1 [.int .i32 (x.1.1 : Nat)] rfl rfl (cell_one_new _ _ _) (by simp [Value.oneCell']) hm1 hm2 hbs ?_; intro v' w1 hown' hgrow _; obtain ⟨g', cap', rfl⟩ := ownsRow_succ hown'; obtain ⟨hv1, hv2, hr2, hk2, hb2⟩ := d0.appended (by decide) hrow hB.size (Nat.le_refl _) hown' hgrow; have hc1 := hv1.cell; have hf1 := hv1.frozen; have e1 := ((d1.alloc _).kept hgrow (d1.not_row (by decide) hrow)).other (B' := w.heap.size) (by omega) (.slice (some ⟨g', 0, none⟩) (pre.length + 1) cap'); have he1 := e1.cell; have hfe := e1.frozen))
    exact ⟨(hk2.trans (KeepsOthers.setCell _ _ _)).from _, hb2.setCell (p := ⟨w.heap.size + 1, 0, none⟩) (by show w.heap.size ≤ w.heap.size + 1; omega) _,
      RdI.snoc (hv2.other (by omega) _) (hr2.kept (grownBy_setCell' _ _ _) (.inr (e1.not_row (by decide) hr2).symm)) (e1.set _), (hB.trans hb2).setCell (p := ⟨w.heap.size + 1, 0, none⟩) (by show w.heap.size ≤ w.heap.size + 1; omega) _⟩
  case done =>
    rintro D ys W hD hS ⟨⟨⟨v, d0, hrow⟩, d1⟩, hB⟩ hK
    have hd0 := d0.cell
    have hd1 := d1.cell
    have HL : Hid (ys.length = (rdL zs).length) := Lib.hid (by rw [← hS, List.length_map])
    have HS := Lib.hid hS
    have HU : Hid (sumB (ys.map (·.1)) = sumB (rdL zs)) := Lib.hid (by rw [hS])
    have HO : Hid (W.ownsRow w.heap.size 21 1 v (rdL zs).length ((rdL zs).map encR)) := Lib.hid (by rw [← HL.out, ← hS]; exact hrow)
    clear hS hrow
    generalize sumB (ys.map (·.1)) = u at *
    gi_wp2
    refine wpIn_wide.2 ?_
    go_quiet (fail)
    gi_wp2
    refine ⟨by simp, .inl ⟨_, _, rfl, run_takeDeferred (w := W.drewN _) hK, ?_⟩⟩
    refine ⟨_, results_tmp2 rfl _ _ _, v, by rw [← HU.out]; rfl, ownsRow_putObj (W := W.drewN _) HO.out _ hK rfl, ?_⟩
    exact (below_drewN_u hB _).trans (belowK_b (w := w) (Nat.le_refl _) (W.drewN _) D _ _ (by omega) hK rfl rfl)
  case stop =>
    rintro D cc pre W _ _ h _
    exact h.elim

theorem read_any (A : Option Addr) (zs : List Nat) (n c : Nat) (hn : n = zs.length) (hlen : n ≤ 2000000) (hcap : n ≤ c) (h63 : c ≤ 9223372036854775807) (w : World) (h4 : max 0 1 + 1 ≤ w.heap.size) (hT : UT w) (hR : BS w w.heap.size A zs) :
    Calls Tryd.prog 71 #[.slice A n c] w (RdPost zs w) :=
  (callsIn_wide (n := 3)).1 (read_in 3 (by omega) A zs n c hn hlen hcap h63 w h4 hT hR)

/-- What is read of bytes. -/
def allL (zs : List Nat) : List Nat := (rdL zs).map (·.1) ++ (if sumB (rdL zs) < zs.length then [65533] else [])
def encN (r : Nat) : Value := .int .i32 (r : Nat)
def AllPost (zs : List Nat) (w : World) (e : Ending) (w' : World) : Prop :=
  ∃ v, e = .returned v ∧ w'.ownsRow w.heap.size 21 1 v (allL zs).length ((allL zs).map encN) ∧ Below w.heap.size w w'
theorem rd_map (l : List (Nat × Nat)) : l.map encR = (l.map (·.1)).map encN := by rw [List.map_map]; rfl
theorem rdL_len (zs : List Nat) : (rdL zs).length ≤ zs.length := by
  have : ∀ f zs, (rdN f zs).length ≤ f := by
    intro f
    induction f with
    | zero => intro zs; simp [rdN]
    | succ f ih =>
      intro zs
      rw [rdN]
      split
      · have := ih (zs.drop (firstF zs).2); simp; exact this
      · simp
  exact this _ _

end Go.Proofs.YtmmkcfjncpcabaaDoor
