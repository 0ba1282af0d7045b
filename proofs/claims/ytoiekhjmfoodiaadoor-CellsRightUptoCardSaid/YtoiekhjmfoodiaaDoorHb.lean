/- The walks of utf.read and utf.All. -/
import Derived.Test.YtoiekhjmfoodiaaDoorHa
import Derived.Test.YtoiekhjmfoodiaaDoorProg
import Derived.WalkKit
import Derived.WalkSpells
import Derived.WalkLawsBesides
import Derived.Lib.Hide
import Derived.StillTailTactics
import Derived.Deep.QuietTactic
import Derived.BigQuiet
namespace Go.Proofs.YtoiekhjmfoodiaaDoor
open Go.RowKit Go.Shelf
attribute [local go_sem] Oper.semAt_some

set_option maxRecDepth 100000 in
theorem Tryd.infoRune : (Tryd.prog.info? 21).map (fun i => (i.zero, i.size, i.bytes)) = some (some (.int .i32 0), 1, 4) := by kernel_rfl
def encR (x : Nat × Nat) : Value := .int .i32 (x.1 : Nat)
def sumB (l : List (Nat × Nat)) : Nat := (l.map (·.2)).sum
set_option maxRecDepth 100000 in
theorem sumB_snoc (l : List (Nat × Nat)) (x : Nat × Nat) : sumB (l ++ [x]) = sumB l + x.2 := by simp [sumB]
set_option maxRecDepth 100000 in
theorem sumB_bd (l : List Sc) : sumB (l.map (·.1)) ≤ 4 * l.length := by
  induction l with
  | nil => simp [sumB]
  | cons x l ih =>
    have h := x.2
    have e : sumB ((x :: l).map (·.1)) = x.1.2 + sumB (l.map (·.1)) := rfl
    rw [e, List.length_cons]
    omega
set_option maxRecDepth 100000 in
theorem below_boxed {W W' : World} {B : Nat} {t : TypeId} {v : Value} (h : Boxed W B t v) (hb : Below W.heap.size W W') : Boxed W' B t v := (hb.block B h.lt).trans h
set_option maxRecDepth 100000 in
theorem ownsRow_below' {w w' : World} {base : Nat} {e : TypeId} {size : Nat} {v : Value} {n : Nat} {xs : List Value} (h : w.ownsRow base e size v n xs) (hb : Below w.heap.size w w') : w'.ownsRow base e size v n xs :=
  h.kept (row := none) (grown_of_below hb) (by cases hv : v.ownBlock <;> simp)
/-- What lies in the two boxes between two rounds. -/
def RdI (n₀ : Nat) (pre : List Sc) (W : World) : Prop :=
  (∃ v, Boxed W n₀ 71 v ∧ W.ownsRow n₀ 21 1 v pre.length ((pre.map (·.1)).map encR)) ∧ Boxed W (n₀ + 1) 3 (.int .i64 (sumB (pre.map (·.1))))
set_option maxRecDepth 100000 in
theorem RdI.own (n₀ : Nat) : Own (RdI n₀) := fun pre A C row ⟨⟨v, hb, ho⟩, hu⟩ hg hr => by
  obtain ⟨v', hb', ho', _⟩ := holdsRow_own n₀ n₀ 71 21 1 (fun pre : List Sc => pre.length) (fun pre : List Sc => (pre.map (·.1)).map encR) (fun _ _ => True) pre A C row ⟨v, hb, ho, trivial⟩ hg hr
  exact ⟨⟨v', hb', ho'⟩, boxed_own _ _ (fun pre : List Sc => .int .i64 (sumB (pre.map (·.1)))) pre A C row hu hg hr⟩
set_option maxRecDepth 100000 in
theorem RdI.nil {n₀ : Nat} {W : World} (c0 : Boxed W n₀ 71 (.slice none 0 0)) (c1 : Boxed W (n₀ + 1) 3 (.int .i64 0)) : RdI n₀ [] W := ⟨⟨_, c0, World.ownsRow_nil _ _ _ _⟩, c1⟩
set_option maxRecDepth 100000 in
theorem RdI.snoc {n₀ : Nat} {W : World} {pre : List Sc} {x : Sc} {v : Value} (h0 : Boxed W n₀ 71 v) (ho : W.ownsRow n₀ 21 1 v (pre.length + 1) ((pre.map (·.1)).map encR ++ [.int .i32 (x.1.1 : Nat)])) (h1 : Boxed W (n₀ + 1) 3 (.int .i64 ((sumB (pre.map (·.1)) : Nat) + (x.1.2 : Nat)))) : RdI n₀ (pre ++ [x]) W := by
  have e : (pre ++ [x]).map (·.1) = pre.map (·.1) ++ [x.1] := by rw [List.map_append]; rfl
  refine ⟨⟨v, h0, ?_⟩, ?_⟩
  · rw [e, List.map_append, List.length_append]
    exact ho
  · rw [e, sumB_snoc]
    simpa using h1
set_option maxRecDepth 100000 in
theorem below_drewN {B : Nat} {a w : World} (h : Below B a w) (n : Nat) : Below B a (w.drewN n) := ⟨h.os, h.tape, h.output, h.size, h.block⟩
def RdPost (zs : List Nat) (w : World) (e : Ending) (w' : World) : Prop :=
  ∃ v, e = .returned (.tuple #[v, .int .i64 (sumB (rdL zs))]) ∧ w'.ownsRow w.heap.size 21 1 v (rdL zs).length ((rdL zs).map encR) ∧ Below w.heap.size w w'

set_option maxRecDepth 100000 in
set_option maxHeartbeats 2000000 in
theorem read_in (m : Nat) (hm : 3 ≤ m) (A : Option Addr) (zs : List Nat) (n c : Nat) (hn : n = zs.length) (hlen : n ≤ 2000000) (hcap : n ≤ c) (h63 : c ≤ 9223372036854775807) (w : World) (h4 : max 2 3 + 1 ≤ w.heap.size) (hT : UT w) (hR : BS w w.heap.size A zs) :
    CallsIn Fence.wide m Tryd.prog 78 #[.slice A n c] w (RdPost zs w) := by
  have h1 : 1 ≤ m := by omega
  obtain ⟨i0, hi, hz0, hz1, hz2⟩ := info_parts Tryd.infoRune
  refine callsIn_of_wp_marks Tryd.func78 rfl trivial ?_ rfl
  simp only [Tryd.ntmps78, List.size_toArray, List.length_cons, List.length_nil, Nat.reduceAdd, Nat.reduceSub, Array.replicate_succ, Array.replicate_zero, List.push_toArray, List.append_toArray, List.nil_append, List.cons_append]
  have HN := Lib.hid hn
  clear hn
  gi_wp2_with (refine ⟨trivial, ?_⟩; gi_at_call 82; refine (settled_in (m - 1) _ _ _ _).mono ?_; rintro e w' ⟨rfl, rfl⟩)
  have b0 := Boxed.new w 71 (.slice none 0 0)
  have b1 := Boxed.new (w.alloc (.cells #[.slice none 0 0] 71)) 3 (.int .i64 0)
  have b2 := Boxed.new ((w.alloc (.cells #[.slice none 0 0] 71)).alloc (.cells #[.int .i64 0] 3)) 54 (.slice A n c)
  simp only [World.size_alloc] at b1 b2
  have hB0 : Below w.heap.size w (((w.alloc (.cells #[.slice none 0 0] 71)).alloc (.cells #[.int .i64 0] 3)).alloc (.cells #[.slice A n c] 54)) :=
    (((Below.refl _ w).alloc (Nat.le_refl _) _).alloc (by simp) _).alloc (by simp; omega) _
  have hT0 := hT.below hB0
  have hR0 := hR.below hB0
  have c0 : Boxed (((w.alloc (.cells #[.slice none 0 0] 71)).alloc (.cells #[.int .i64 0] 3)).alloc (.cells #[.slice A n c] 54)) w.heap.size 71 (.slice none 0 0) := (b0.alloc _).alloc _
  have c1 : Boxed (((w.alloc (.cells #[.slice none 0 0] 71)).alloc (.cells #[.int .i64 0] 3)).alloc (.cells #[.slice A n c] 54)) (w.heap.size + 1) 3 (.int .i64 0) := b1.alloc _
  have hsz : (((w.alloc (.cells #[.slice none 0 0] 71)).alloc (.cells #[.int .i64 0] 3)).alloc (.cells #[.slice A n c] 54)).heap.size = w.heap.size + 3 := by simp
  clear b0 b1
  generalize (((w.alloc (.cells #[.slice none 0 0] 71)).alloc (.cells #[.int .i64 0] 3)).alloc (.cells #[.slice A n c] 54)) = W0 at hB0 hT0 hR0 c0 c1 b2 hsz ⊢
  refine wpIn_rangeFunc_ownG rfl h1 (gf := 83) (lb := #[.pointer (some ⟨w.heap.size + 1 + 1, 0, none⟩)]) rfl trivial (enters_of Tryd.func83 (by kernel_rfl) rfl)
    (settled_stops (m - 1) (by omega) (w.heap.size + 1 + 1) w.heap.size A zs c (by have := HN.out; omega) h63 (by have := HN.out; omega) W0 h4 (by omega) (by omega) hT0 hR0 (by rw [← HN.out]; exact b2.cell)) belowK_t (belowK_b (by omega)) (Below.refl _ _) (fun _ => rfl)
    (fun pre W => RdI w.heap.size pre W ∧ Below w.heap.size w W)
    (fun _ _ _ => False)
    (OwnFrom.and (Own.from (RdI.own _) _) (ownFrom_below (Nat.le_refl _) (by omega)))
    (fun _ _ _ _ _ hs _ _ => hs)
    ⟨RdI.nil c0 c1, hB0⟩
    (fun x => { tmps := #[.slice A n c, undef, .slice none 0 0, .int .i64 0, .pointer (some ⟨w.heap.size, 0, none⟩), .pointer (some ⟨w.heap.size + 1, 0, none⟩), .int .i32 (x.1.1 : Nat), .int .i64 (x.1.2 : Nat), .slice A n c, .func (.func 83) #[] #[.pointer (some ⟨w.heap.size + 1 + 1, 0, none⟩)], .int .i32 (x.1.1 : Nat), .int .i64 (x.1.2 : Nat), undef, undef, undef, undef, undef, undef, undef, undef, undef], defers := [] }) ?assign ?body ?done ?stop
  case assign =>
    intro l x W K hK
    gi_wp2
    exact hK
  case body =>
    rintro l pre x W ⟨⟨⟨v, d0, hrow⟩, d1⟩, hB⟩ hlt
    have hd0 := d0.cell
    have hx4 := x.2
    have hsb := sumB_bd pre
    have hm1 : pre.length + 1 ≤ maxLen := by have := HN.out; unfold maxLen; omega
    have hm2 : (pre.length + 1) * 4 ≤ 140737488355328 := by have := HN.out; omega
    have hs2 : sumB (pre.map (·.1)) ≤ 8000000 := by have := HN.out; omega
    have hbs : w.heap.size ≤ (W.alloc (.cells #[.int .i32 (x.1.1 : Nat)] 21)).heap.size := by have := hB.size; simp; omega
    clear hT hR hT0 hR0 c0 c1 b2 hB0
    gi_wp2_with (gi_at_builtin; go_must (refine wpListIn_append_own _ rfl _ _ 71 rfl w.heap.size 21 i0 (.int .i32 0) 1 4 Tryd.underlying71 hi hz0 hz1 hz2 rfl (by decide) _ _ _ rfl (hrow.alloc _) ⟨W.heap.size, 0, none⟩ 1 1 [.int .i32 (x.1.1 : Nat)] rfl rfl (cell_one_new _ _ _) (by simp [Value.oneCell']) hm1 hm2 hbs ?_; intro v' w1 hown' hgrow _; obtain ⟨g', cap', rfl⟩ := ownsRow_succ hown'; obtain ⟨hv1, hv2, hr2, hk2, hb2⟩ := d0.appended (by decide) hrow hB.size (Nat.le_refl _) hown' hgrow; have hc1 := hv1.cell; have hf1 := hv1.frozen; have e1 := ((d1.alloc _).kept hgrow (d1.not_row (by decide) hrow)).other (B' := w.heap.size) (by omega) (.slice (some ⟨g', 0, none⟩) (pre.length + 1) cap'); have he1 := e1.cell; have hfe := e1.frozen))
    exact ⟨(hk2.trans (KeepsOthers.setCell _ _ _)).from _, hb2.setCell (p := ⟨w.heap.size + 1, 0, none⟩) (by show w.heap.size ≤ w.heap.size + 1; omega) _,
      RdI.snoc (hv2.other (by omega) _) (hr2.kept (grownBy_setCell' _ _ _) (.inr (e1.not_row (by decide) hr2).symm)) (e1.set _), (hB.trans hb2).setCell (p := ⟨w.heap.size + 1, 0, none⟩) (by show w.heap.size ≤ w.heap.size + 1; omega) _⟩
  case done =>
    rintro D ys W hD hS ⟨⟨⟨v, d0, hrow⟩, d1⟩, hB⟩ hK
    have hd0 := d0.cell
    have hd1 := d1.cell
    have HL : Hid (ys.length = (rdL zs).length) := Lib.hid (by rw [← hS, List.length_map])
    have HS := Lib.hid hS
    have HU : Hid (sumB (ys.map (·.1)) = sumB (rdL zs)) := Lib.hid (by rw [hS])
    have HO : Hid (W.ownsRow w.heap.size 21 1 v (rdL zs).length ((rdL zs).map encR)) := Lib.hid (by rw [← HL.out, ← hS]; exact hrow)
    clear hS hrow
    generalize sumB (ys.map (·.1)) = u at *
    gi_wp2
    refine wpIn_wide.2 ?_
    go_quiet (fail)
    gi_wp2
    refine ⟨by simp, .inl ⟨_, _, rfl, run_takeDeferred (w := W.drewN _) hK, ?_⟩⟩
    refine ⟨_, results_tmp2 rfl _ _ _, v, by rw [← HU.out]; rfl, ownsRow_putObj (W := W.drewN _) HO.out _ hK rfl, ?_⟩
    exact (below_drewN hB _).trans (belowK_b (w := w) (Nat.le_refl _) (W.drewN _) D _ _ (by omega) hK rfl rfl)
  case stop =>
    rintro D cc pre W _ _ h _
    exact h.elim

set_option maxRecDepth 100000 in
theorem read_any (A : Option Addr) (zs : List Nat) (n c : Nat) (hn : n = zs.length) (hlen : n ≤ 2000000) (hcap : n ≤ c) (h63 : c ≤ 9223372036854775807) (w : World) (h4 : max 2 3 + 1 ≤ w.heap.size) (hT : UT w) (hR : BS w w.heap.size A zs) :
    Calls Tryd.prog 78 #[.slice A n c] w (RdPost zs w) :=
  (callsIn_wide (n := 3)).1 (read_in 3 (by omega) A zs n c hn hlen hcap h63 w h4 hT hR)

/-- What is read of bytes. -/
def allL (zs : List Nat) : List Nat := (rdL zs).map (·.1) ++ (if sumB (rdL zs) < zs.length then [65533] else [])
def encN (r : Nat) : Value := .int .i32 (r : Nat)
def AllPost (zs : List Nat) (w : World) (e : Ending) (w' : World) : Prop :=
  ∃ v, e = .returned v ∧ w'.ownsRow w.heap.size 21 1 v (allL zs).length ((allL zs).map encN) ∧ Below w.heap.size w w'
set_option maxRecDepth 100000 in
theorem rd_map (l : List (Nat × Nat)) : l.map encR = (l.map (·.1)).map encN := by rw [List.map_map]; rfl
set_option maxRecDepth 100000 in
theorem rdL_len (zs : List Nat) : (rdL zs).length ≤ zs.length := by
  have : ∀ f zs, (rdN f zs).length ≤ f := by
    intro f
    induction f with
    | zero => intro zs; simp [rdN]
    | succ f ih =>
      intro zs
      rw [rdN]
      split
      · have := ih (zs.drop (firstF zs).2); simp; exact this
      · simp
  exact this _ _

set_option maxHeartbeats 1000000 in
set_option maxRecDepth 100000 in
theorem all_any (A : Option Addr) (zs : List Nat) (n c : Nat) (hn : n = zs.length) (hlen : n ≤ 2000000) (hcap : n ≤ c) (h63 : c ≤ 9223372036854775807) (w : World) (h4 : max 2 3 + 1 ≤ w.heap.size) (hT : UT w) (hR : BS w w.heap.size A zs) :
    Calls Tryd.prog 74 #[.slice A n c] w (AllPost zs w) := by
  obtain ⟨i0, hi, hz0, hz1, hz2⟩ := info_parts Tryd.infoRune
  have hr := read_any A zs n c hn hlen hcap h63 w h4 hT hR
  have hrl := rdL_len zs
  have hm1 : ((rdL zs).map (·.1)).length + 1 ≤ maxLen := by rw [List.length_map]; unfold maxLen; omega
  have hm2 : (((rdL zs).map (·.1)).length + 1) * 4 ≤ 140737488355328 := by rw [List.length_map]; omega
  have hE : Hid (allL zs = (rdL zs).map (·.1) ++ (if sumB (rdL zs) < zs.length then [65533] else [])) := Lib.hid rfl
  unfold RdPost at hr
  rw [rd_map, show (rdL zs).length = ((rdL zs).map (·.1)).length from (List.length_map ..).symm] at hr
  rw [← hn] at hE
  clear hT hR hrl hn
  unfold AllPost
  generalize (rdL zs).map (·.1) = rs at *
  generalize sumB (rdL zs) = u at *
  by_cases hu : u < n
  · have HZ : Hid (allL zs = rs ++ [65533]) := Lib.hid (by rw [hE.out, if_pos hu])
    have hui : (u : Int) < n := by omega
    clear hE
    go_enter Tryd.func74, Tryd.ntmps74
    go_wp2_with (first | (go_at_call 78; refine hr.mono ?_; clear hr; rintro e w1 ⟨v, rfl, ho, hb1⟩; have HO := Lib.hid ho; clear ho; have HBS : Hid (∀ o : Obj, w.heap.size ≤ (w1.alloc o).heap.size) := Lib.hid fun o => by (have := hb1.size; simp; omega)) | (at_builtin; go_must (refine wpList_append_own _ rfl _ _ 71 rfl w.heap.size 21 i0 (.int .i32 0) 1 4 Tryd.underlying71 hi hz0 hz1 hz2 rfl (by decide) _ _ _ rfl (HO.out.alloc _) ⟨w1.heap.size, 0, none⟩ 1 1 [.int .i32 65533] rfl rfl (cell_one_new _ _ _) (by simp [Value.oneCell']) hm1 hm2 (HBS.out _) ?_; intro v' w9 hown' hgrow _; have hB9 : Hid (Below w.heap.size w w9) := Lib.hid ((hb1.alloc hb1.size _).grown hgrow (HBS.out _) (fun k e => (HO.out.lt k e).1)); clear hgrow)))
    go_ret
    exact ⟨v', rfl, by rw [HZ.out, List.length_append, List.map_append]; exact hown', hB9.out⟩
  · have HZ : Hid (allL zs = rs) := Lib.hid (by rw [hE.out, if_neg hu, List.append_nil])
    clear hE
    go_enter Tryd.func74, Tryd.ntmps74
    go_wp2_with (go_at_call 78; refine hr.mono ?_; clear hr; rintro e w1 ⟨v, rfl, ho, hb1⟩; have HO := Lib.hid ho; clear ho)
    go_ret
    exact ⟨v, rfl, by rw [HZ.out]; exact HO.out, hb1⟩

end Go.Proofs.YtoiekhjmfoodiaaDoor

namespace Go.Proofs.YtoiekhjmfoodiaaDoor
open Go.RowKit

/-- The slice value '.slice A xs.length c' reads as the numbers xs; it lies below block B. -/
def RS_u (w : World) (B : Nat) (A : Option Addr) (xs : List Int) : Prop :=
  xs ≠ [] → ∃ b off, A = some ⟨b, off, none⟩ ∧ b < B ∧ ∀ k, k < xs.length → w.cell? ⟨b, off + k, none⟩ = some (.int .i32 (xs[k]?.getD 0))
set_option maxRecDepth 100000 in
theorem RS_u.below {w w' : World} {B : Nat} {A : Option Addr} {xs : List Int} (h : RS_u w B A xs) (hb : Below B w w') : RS_u w' B A xs := fun hn => by
  obtain ⟨b, off, e, hlt, hc⟩ := h hn
  exact ⟨b, off, e, hlt, fun k hk => (hb.cell (p := ⟨b, off + k, none⟩) hlt).trans (hc k hk)⟩
set_option maxRecDepth 100000 in
theorem RS_u.more {w : World} {B B' : Nat} {A : Option Addr} {xs : List Int} (h : RS_u w B A xs) (hB : B ≤ B') : RS_u w B' A xs := fun hn => by
  obtain ⟨b, off, e, hlt, hc⟩ := h hn
  exact ⟨b, off, e, Nat.lt_of_lt_of_le hlt hB, hc⟩

set_option maxRecDepth 100000 in
theorem take_snocD_u (xs : List Int) (k : Nat) (h : k < xs.length) : xs.take (k + 1) = xs.take k ++ [xs[k]?.getD 0] := by
  rw [List.take_succ_eq_append_getElem h, List.getElem?_eq_getElem h]; rfl
def sameB (xs ys : List Int) : Bool := decide (xs = ys)
set_option maxRecDepth 100000 in
theorem same_none {xs ys : List Int} (h : xs.length ≠ ys.length) : sameB xs ys = false := decide_eq_false fun e => h (by rw [e])
set_option maxRecDepth 100000 in
theorem same_some {xs ys : List Int} (k : Nat) (h : xs[k]?.getD 0 ≠ ys[k]?.getD 0) : sameB xs ys = false := decide_eq_false fun e => h (by rw [e])
set_option maxRecDepth 100000 in
theorem same_all {xs ys : List Int} (k : Nat) (h : xs.take k = ys.take k) (h1 : xs.length ≤ k) (h2 : ys.length ≤ k) : sameB xs ys = true :=
  decide_eq_true (by rw [← List.take_of_length_le h1, h, List.take_of_length_le h2])
set_option maxRecDepth 100000 in
theorem take_same {xs ys : List Int} (k : Nat) (h : xs.take k = ys.take k) (h1 : k < xs.length) (h2 : k < ys.length) (e : xs[k]?.getD 0 = ys[k]?.getD 0) : xs.take (k + 1) = ys.take (k + 1) := by
  rw [take_snocD_u xs k h1, take_snocD_u ys k h2, h, e]

end Go.Proofs.YtoiekhjmfoodiaaDoor

namespace Go.Proofs.YtoiekhjmfoodiaaDoor
open Go.RowKit Go.Shelf

def intsOf (l : List Nat) : List Int := l.map fun (r : Nat) => (r : Int)
set_option maxRecDepth 100000 in
theorem intsOf_enc (l : List Nat) : (intsOf l).map (Value.int .i32) = l.map encN := by unfold intsOf; rw [List.map_map]; rfl
set_option maxRecDepth 100000 in
theorem own_form {w : World} {base : Nat} {e : TypeId} {size : Nat} {v : Value} {k : Nat} {xs : List Value} (h : w.ownsRow base e size v k xs) :
    ∃ A c, v = .slice A k c ∧ (0 < k → ∃ g, A = some ⟨g, 0, none⟩) := by
  rcases h.2 with ⟨rfl, rfl⟩ | ⟨g, cap, cur, rfl, _⟩
  · exact ⟨none, 0, rfl, fun h => by omega⟩
  · exact ⟨_, cap, rfl, fun _ => ⟨g, rfl⟩⟩
set_option maxRecDepth 100000 in
/-- A row of the call's own reads as its numbers. -/
theorem RS_u.of_own {w : World} {base n c : Nat} {A : Option Addr} {xs : List Int} (h : w.ownsRow base 21 1 (.slice A n c) n (xs.map (Value.int .i32))) : RS_u w w.heap.size A xs := fun hn => by
  have hl : xs.length = n := by have := h.1; simpa using this
  obtain ⟨A', c', e, hA⟩ := own_form h
  injection e with e1 _ _
  subst e1
  obtain ⟨g, rfl⟩ := hA (by rw [← hl]; exact List.length_pos_iff.2 hn)
  refine ⟨g, 0, rfl, (h.lt g rfl).2, fun k hk => ?_⟩
  rw [Nat.zero_add, h.cellAt k (by omega), List.getElem?_map, List.getElem?_eq_getElem hk]
  rfl
/-- What All answers, as Same takes it. -/
def AllRS (zs : List Nat) (w : World) (e : Ending) (w' : World) : Prop :=
  ∃ A c, e = .returned (.slice A (allL zs).length c) ∧ RS_u w' w'.heap.size A (intsOf (allL zs)) ∧ Below w.heap.size w w'
set_option maxRecDepth 100000 in
theorem all_rs (A : Option Addr) (zs : List Nat) (n c : Nat) (hn : n = zs.length) (hlen : n ≤ 2000000) (hcap : n ≤ c) (h63 : c ≤ 9223372036854775807) (w : World) (h4 : max 2 3 + 1 ≤ w.heap.size) (hT : UT w) (hR : BS w w.heap.size A zs) :
    Calls Tryd.prog 74 #[.slice A n c] w (AllRS zs w) := by
  refine (all_any A zs n c hn hlen hcap h63 w h4 hT hR).mono ?_
  rintro e w' ⟨v, rfl, ho, hb⟩
  obtain ⟨A', c', rfl, _⟩ := own_form ho
  rw [← intsOf_enc] at ho
  exact ⟨A', c', rfl, RS_u.of_own ho, hb⟩

set_option maxRecDepth 100000 in
theorem bs_new (w : World) (zs : List Nat) (hz : ∀ z ∈ zs, z < 256) : BS (w.alloc (.cells (zs.map fun z => Value.int .u8 (z : Nat)).toArray 5)) (w.alloc (.cells (zs.map fun z => Value.int .u8 (z : Nat)).toArray 5)).heap.size (some ⟨w.heap.size, 0, none⟩) zs :=
  ⟨hz, fun _ => ⟨w.heap.size, 0, rfl, by simp, fun k hk => by
    refine (cell_of_row _ _ _ _ _ _ (heap_alloc_new w _)).trans ?_
    simp [hk]⟩⟩
set_option maxRecDepth 100000 in
theorem rs_new (w : World) (xs : List Int) : RS_u (w.alloc (.cells (xs.map (Value.int .i32)).toArray 21)) (w.alloc (.cells (xs.map (Value.int .i32)).toArray 21)).heap.size (some ⟨w.heap.size, 0, none⟩) xs := fun _ =>
  ⟨w.heap.size, 0, rfl, by simp, fun k hk => by
    refine (cell_of_row _ _ _ _ _ _ (heap_alloc_new w _)).trans ?_
    simp [hk]⟩
set_option maxRecDepth 100000 in
theorem aw1 : allL [226, 130, 65] = [65533, 65] := by decide
set_option maxRecDepth 100000 in
theorem aw2 : allL [240, 159, 152, 128] = [128512] := by decide

end Go.Proofs.YtoiekhjmfoodiaaDoor

namespace Go.Proofs.YtoiekhjmfoodiaaDoor
open Go.RowKit

/-- The number behind k bytes. -/
def accZ (lo : Nat) (zs : List Nat) : Nat → Int
  | 0 => 0
  | 1 => ((zs[0]?.getD 0 : Nat) : Int) - lo
  | k + 2 => 64 * accZ lo zs (k + 1) + ((zs[k + 1]?.getD 0 : Nat) : Int) - 128
def contB (zs : List Nat) (n : Nat) : Bool := (List.range n).all fun j => decide (j = 0) || (decide (128 ≤ zs[j]?.getD 0) && decide (zs[j]?.getD 0 ≤ 191))
def numN (lo wd n : Nat) (zs : List Nat) : Int :=
  if zs[0]?.getD 0 < lo ∨ lo + wd ≤ zs[0]?.getD 0 then -1 else if contB zs n = true then accZ lo zs n else -1
def numZ (zs : List Nat) : Int :=
  if zs.length = 1 then ((zs[0]?.getD 0 : Nat) : Int) else if zs.length = 2 then numN 192 32 2 zs else if zs.length = 3 then numN 224 16 3 zs else if zs.length = 4 then numN 240 8 4 zs else -1
set_option maxRecDepth 100000 in
theorem contB_succ (zs : List Nat) (k : Nat) (hk : 1 ≤ k) : contB zs (k + 1) = (contB zs k && (decide (128 ≤ zs[k]?.getD 0) && decide (zs[k]?.getD 0 ≤ 191))) := by
  unfold contB
  rw [List.range_succ, List.all_append]
  have : ¬ k = 0 := by omega
  simp [this]
set_option maxRecDepth 100000 in
theorem contB_no (zs : List Nat) (k n : Nat) (hk : 1 ≤ k) (hkn : k < n) (h : zs[k]?.getD 0 < 128 ∨ 191 < zs[k]?.getD 0) : contB zs n = false := by
  unfold contB
  rw [List.all_eq_false]
  exact ⟨k, List.mem_range.2 hkn, by simp; omega⟩
set_option maxRecDepth 100000 in
theorem accZ_bd (lo wd : Nat) (hw : wd ≤ 32) (zs : List Nat) (h0 : lo ≤ zs[0]?.getD 0) (h1 : zs[0]?.getD 0 < lo + wd) : ∀ k, k ≤ 4 → contB zs k = true → 0 ≤ accZ lo zs k ∧ accZ lo zs k < 32 * 64 ^ (k - 1)
  | 0, _, _ => by simp [accZ]
  | 1, _, _ => by simp [accZ]; omega
  | k + 2, hk, hc => by
    rw [contB_succ zs (k + 1) (by omega)] at hc
    simp only [Bool.and_eq_true, decide_eq_true_eq] at hc
    have ih := accZ_bd lo wd hw zs h0 h1 (k + 1) (by omega) hc.1
    rw [accZ]
    have e : k + 2 - 1 = (k + 1 - 1) + 1 := by omega
    rw [e, Int.pow_succ]
    generalize accZ lo zs (k + 1) = a at *
    generalize (64 : Int) ^ (k + 1 - 1) = p at *
    omega
set_option maxRecDepth 100000 in
theorem accZ_bd' (lo wd : Nat) (hw : wd ≤ 32) (zs : List Nat) (h0 : lo ≤ zs[0]?.getD 0) (h1 : zs[0]?.getD 0 < lo + wd) (k : Nat) (hk : k ≤ 4) (hc : contB zs k = true) : 0 ≤ accZ lo zs k ∧ accZ lo zs k ≤ 8388608 := by
  have h := accZ_bd lo wd hw zs h0 h1 k hk hc
  have hp : (64 : Int) ^ (k - 1) ≤ 262144 := by
    rcases (by omega : k = 0 ∨ k = 1 ∨ k = 2 ∨ k = 3 ∨ k = 4) with rfl | rfl | rfl | rfl | rfl <;> decide
  omega

set_option maxRecDepth 100000 in
theorem number_0 (A : Option Addr) (c : Nat) (w : World) : Calls Tryd.prog 80 #[.slice A 0 c] w fun e w' => e = .returned (.int .i32 (-1)) ∧ Below w.heap.size w w' := by
  go_enter Tryd.func80, Tryd.ntmps80
  go_wp2
  go_ret
  exact ⟨rfl, Below.refl _ _⟩
set_option maxRecDepth 100000 in
theorem number_5 (A : Option Addr) (n c : Nat) (hn : 4 < n) (w : World) : Calls Tryd.prog 80 #[.slice A n c] w fun e w' => e = .returned (.int .i32 (-1)) ∧ Below w.heap.size w w' := by
  have hnz : ((n : Int) == 0) = false := by simp; omega
  have hn4 : (4 : Int) < n := by omega
  go_enter Tryd.func80, Tryd.ntmps80
  go_wp2
  go_ret
  exact ⟨rfl, Below.refl _ _⟩
set_option maxRecDepth 100000 in
theorem number_1 (b off c z : Nat) (w : World) (hz : z < 256) (hc : w.cell? ⟨b, off, none⟩ = some (.int .u8 z)) : Calls Tryd.prog 80 #[.slice (some ⟨b, off, none⟩) 1 c] w fun e w' => e = .returned (.int .i32 z) ∧ Below w.heap.size w w' := by
  have hz0 : (z : Int) < 256 := by omega
  go_enter Tryd.func80, Tryd.ntmps80
  go_wp2
  go_ret
  exact ⟨rfl, Below.refl _ _⟩

set_option maxRecDepth 100000 in
set_option maxHeartbeats 1000000 in
theorem number_2 (b off c : Nat) (zs : List Nat) (hn : zs.length = 2) (w : World) (hR : BS w w.heap.size (some ⟨b, off, none⟩) zs) :
    Calls Tryd.prog 80 #[.slice (some ⟨b, off, none⟩) 2 c] w fun e w' => e = .returned (.int .i32 (numN 192 32 2 zs)) ∧ Below w.heap.size w w' := by
  obtain ⟨b', off', e, hb, hc⟩ := hR.2 (by rintro rfl; simp at hn)
  obtain ⟨rfl, rfl⟩ : b = b' ∧ off = off' := by simpa using e
  have HZ : Hid (∀ k, zs[k]?.getD 0 < 256) := Lib.hid fun k => by
    rcases Nat.lt_or_ge k zs.length with h | h
    · rw [List.getElem?_eq_getElem h]; exact hR.1 _ (List.getElem_mem _)
    · rw [List.getElem?_eq_none h]; decide
  have hc0 : w.cell? ⟨b, off, none⟩ = some (.int .u8 (zs[0]?.getD 0 : Nat)) := hc 0 (by omega)
  have HC : Hid (∀ W, Below w.heap.size w W → ∀ k, k < 2 → W.cell? ⟨b, off + k, none⟩ = some (.int .u8 (zs[k]?.getD 0 : Nat))) := Lib.hid fun W hW k hk => (hW.cell (p := ⟨b, off + k, none⟩) hb).trans (hc k (by omega))
  have h256 := HZ.out 0
  have h256' : ((zs[0]?.getD 0 : Nat) : Int) < 256 := by omega
  have hA : Below w.heap.size w (w.alloc (.cells #[.int .i32 0, .int .i32 0, .int .i32 192, .int .i32 224, .int .i32 240] 21)) := (Below.refl _ _).alloc (Nat.le_refl _) _
  have hA2 : Below w.heap.size w ((w.alloc (.cells #[.int .i32 0, .int .i32 0, .int .i32 192, .int .i32 224, .int .i32 240] 21)).alloc (.cells #[.int .i32 0, .int .i32 0, .int .i32 32, .int .i32 16, .int .i32 8] 21)) := hA.alloc hA.size _
  have k0 := (hA.cell (p := ⟨b, off, none⟩) hb).trans hc0
  have k2 := (hA2.cell (p := ⟨b, off, none⟩) hb).trans hc0
  have HA := Lib.hid hA
  have HA2 := Lib.hid hA2
  clear hc hR hA hA2
  by_cases g1 : zs[0]?.getD 0 < 192
  · have HN : Hid (numN 192 32 2 zs = -1) := Lib.hid (by unfold numN; rw [if_pos (.inl g1)])
    have g1' : ((zs[0]?.getD 0 : Nat) : Int) < 192 := by omega
    generalize zs[0]?.getD 0 = z at *
    go_enter Tryd.func80, Tryd.ntmps80
    go_wp2
    go_ret
    exact ⟨by rw [HN.out]; rfl, HA.out⟩
  · by_cases g2 : 192 + 32 ≤ zs[0]?.getD 0
    · have HN : Hid (numN 192 32 2 zs = -1) := Lib.hid (by unfold numN; rw [if_pos (.inr g2)])
      have g1' : (192 : Int) ≤ ((zs[0]?.getD 0 : Nat) : Int) := by omega
      have g2' : (192 + 32 : Int) ≤ ((zs[0]?.getD 0 : Nat) : Int) := by omega
      generalize zs[0]?.getD 0 = z at *
      go_enter Tryd.func80, Tryd.ntmps80
      go_wp2
      go_ret
      exact ⟨by rw [HN.out]; rfl, HA2.out⟩
    · have HN : Hid (numN 192 32 2 zs = if contB zs 2 = true then accZ 192 zs 2 else -1) := Lib.hid (by unfold numN; rw [if_neg (by omega)])
      have g1' : (192 : Int) ≤ ((zs[0]?.getD 0 : Nat) : Int) := by omega
      have g2' : ((zs[0]?.getD 0 : Nat) : Int) < (192 + 32 : Int) := by omega
      have HBD : Hid (∀ k, k ≤ 4 → contB zs k = true → 0 ≤ accZ 192 zs k ∧ accZ 192 zs k ≤ 8388608) := Lib.hid fun k => accZ_bd' 192 32 (by omega) zs (by omega) (by omega) k
      have H1 : Hid (accZ 192 zs 1 = ((zs[0]?.getD 0 : Nat) : Int) - 192) := Lib.hid rfl
      generalize zs[0]?.getD 0 = z at *
      go_enter Tryd.func80, Tryd.ntmps80
      go_wp2
      go_loopw [5, 6] (fun r i wr => ∃ k : Nat, 1 ≤ k ∧ k ≤ 2 ∧ i = .int .i64 k ∧ r = .int .i32 (accZ 192 zs k) ∧ Hid (contB zs k = true) ∧ Hid (Below w.heap.size w wr)) (fun _ i _ => 2 - (intOf i).toNat)
      case atStart => exact ⟨1, Nat.le_refl _, by omega, rfl, by rw [H1.out], Lib.hid rfl, HA2⟩
      case round =>
        obtain ⟨k, hk1, hkn, rfl, rfl, HK, hB⟩ := hrel
        obtain ⟨a0, a1⟩ := HBD.out k (by omega) HK.out
        by_cases hlt : k < 2
        · have hck := HC.out wr hB.out k hlt
          have hz := HZ.out k
          have hz' : ((zs[k]?.getD 0 : Nat) : Int) < 256 := by omega
          by_cases q1 : zs[k]?.getD 0 < 128 ∨ 191 < zs[k]?.getD 0
          · have HF : Hid (numN 192 32 2 zs = -1) := Lib.hid (by rw [HN.out, contB_no zs k 2 hk1 hlt q1]; rfl)
            rcases q1 with q1 | q1
            · have q1' : ((zs[k]?.getD 0 : Nat) : Int) < 128 := by omega
              generalize zs[k]?.getD 0 = y at *
              go_wp2
              go_ret
              exact ⟨by rw [HF.out]; rfl, hB.out⟩
            · have q1' : (191 : Int) < ((zs[k]?.getD 0 : Nat) : Int) := by omega
              generalize zs[k]?.getD 0 = y at *
              go_wp2
              go_ret
              exact ⟨by rw [HF.out]; rfl, hB.out⟩
          · have q1' : (128 : Int) ≤ ((zs[k]?.getD 0 : Nat) : Int) := by omega
            have q2' : ((zs[k]?.getD 0 : Nat) : Int) ≤ 191 := by omega
            have HK' : Hid (contB zs (k + 1) = true) := Lib.hid (by rw [contB_succ zs k hk1, HK.out]; simp; omega)
            have HS : Hid (accZ 192 zs (k + 1) = 64 * accZ 192 zs k + ((zs[k]?.getD 0 : Nat) : Int) - 128) := Lib.hid (by
              obtain ⟨q, rfl⟩ : ∃ q, k = q + 1 := ⟨k - 1, by omega⟩
              rfl)
            clear q1 HBD
            generalize zs[k]?.getD 0 = y at *
            generalize accZ 192 zs k = a at *
            go_wp2
            go_roundw
            case rel => exact ⟨k + 1, by omega, by omega, by go_num, by rw [HS.out], HK', hB⟩
            case measure => simp [intOf]; omega
        · obtain rfl : k = 2 := by omega
          have HF : Hid (numN 192 32 2 zs = accZ 192 zs 2) := Lib.hid (by rw [HN.out, if_pos HK.out])
          go_wp2
          go_ret
          exact ⟨by rw [HF.out]; rfl, hB.out⟩

set_option maxRecDepth 100000 in
set_option maxHeartbeats 1000000 in
theorem number_3 (b off c : Nat) (zs : List Nat) (hn : zs.length = 3) (w : World) (hR : BS w w.heap.size (some ⟨b, off, none⟩) zs) :
    Calls Tryd.prog 80 #[.slice (some ⟨b, off, none⟩) 3 c] w fun e w' => e = .returned (.int .i32 (numN 224 16 3 zs)) ∧ Below w.heap.size w w' := by
  obtain ⟨b', off', e, hb, hc⟩ := hR.2 (by rintro rfl; simp at hn)
  obtain ⟨rfl, rfl⟩ : b = b' ∧ off = off' := by simpa using e
  have HZ : Hid (∀ k, zs[k]?.getD 0 < 256) := Lib.hid fun k => by
    rcases Nat.lt_or_ge k zs.length with h | h
    · rw [List.getElem?_eq_getElem h]; exact hR.1 _ (List.getElem_mem _)
    · rw [List.getElem?_eq_none h]; decide
  have hc0 : w.cell? ⟨b, off, none⟩ = some (.int .u8 (zs[0]?.getD 0 : Nat)) := hc 0 (by omega)
  have HC : Hid (∀ W, Below w.heap.size w W → ∀ k, k < 3 → W.cell? ⟨b, off + k, none⟩ = some (.int .u8 (zs[k]?.getD 0 : Nat))) := Lib.hid fun W hW k hk => (hW.cell (p := ⟨b, off + k, none⟩) hb).trans (hc k (by omega))
  have h256 := HZ.out 0
  have h256' : ((zs[0]?.getD 0 : Nat) : Int) < 256 := by omega
  have hA : Below w.heap.size w (w.alloc (.cells #[.int .i32 0, .int .i32 0, .int .i32 192, .int .i32 224, .int .i32 240] 21)) := (Below.refl _ _).alloc (Nat.le_refl _) _
  have hA2 : Below w.heap.size w ((w.alloc (.cells #[.int .i32 0, .int .i32 0, .int .i32 192, .int .i32 224, .int .i32 240] 21)).alloc (.cells #[.int .i32 0, .int .i32 0, .int .i32 32, .int .i32 16, .int .i32 8] 21)) := hA.alloc hA.size _
  have k0 := (hA.cell (p := ⟨b, off, none⟩) hb).trans hc0
  have k2 := (hA2.cell (p := ⟨b, off, none⟩) hb).trans hc0
  have HA := Lib.hid hA
  have HA2 := Lib.hid hA2
  clear hc hR hA hA2
  by_cases g1 : zs[0]?.getD 0 < 224
  · have HN : Hid (numN 224 16 3 zs = -1) := Lib.hid (by unfold numN; rw [if_pos (.inl g1)])
    have g1' : ((zs[0]?.getD 0 : Nat) : Int) < 224 := by omega
    generalize zs[0]?.getD 0 = z at *
    go_enter Tryd.func80, Tryd.ntmps80
    go_wp2
    go_ret
    exact ⟨by rw [HN.out]; rfl, HA.out⟩
  · by_cases g2 : 224 + 16 ≤ zs[0]?.getD 0
    · have HN : Hid (numN 224 16 3 zs = -1) := Lib.hid (by unfold numN; rw [if_pos (.inr g2)])
      have g1' : (224 : Int) ≤ ((zs[0]?.getD 0 : Nat) : Int) := by omega
      have g2' : (224 + 16 : Int) ≤ ((zs[0]?.getD 0 : Nat) : Int) := by omega
      generalize zs[0]?.getD 0 = z at *
      go_enter Tryd.func80, Tryd.ntmps80
      go_wp2
      go_ret
      exact ⟨by rw [HN.out]; rfl, HA2.out⟩
    · have HN : Hid (numN 224 16 3 zs = if contB zs 3 = true then accZ 224 zs 3 else -1) := Lib.hid (by unfold numN; rw [if_neg (by omega)])
      have g1' : (224 : Int) ≤ ((zs[0]?.getD 0 : Nat) : Int) := by omega
      have g2' : ((zs[0]?.getD 0 : Nat) : Int) < (224 + 16 : Int) := by omega
      have HBD : Hid (∀ k, k ≤ 4 → contB zs k = true → 0 ≤ accZ 224 zs k ∧ accZ 224 zs k ≤ 8388608) := Lib.hid fun k => accZ_bd' 224 16 (by omega) zs (by omega) (by omega) k
      have H1 : Hid (accZ 224 zs 1 = ((zs[0]?.getD 0 : Nat) : Int) - 224) := Lib.hid rfl
      generalize zs[0]?.getD 0 = z at *
      go_enter Tryd.func80, Tryd.ntmps80
      go_wp2
      go_loopw [5, 6] (fun r i wr => ∃ k : Nat, 1 ≤ k ∧ k ≤ 3 ∧ i = .int .i64 k ∧ r = .int .i32 (accZ 224 zs k) ∧ Hid (contB zs k = true) ∧ Hid (Below w.heap.size w wr)) (fun _ i _ => 3 - (intOf i).toNat)
      case atStart => exact ⟨1, Nat.le_refl _, by omega, rfl, by rw [H1.out], Lib.hid rfl, HA2⟩
      case round =>
        obtain ⟨k, hk1, hkn, rfl, rfl, HK, hB⟩ := hrel
        obtain ⟨a0, a1⟩ := HBD.out k (by omega) HK.out
        by_cases hlt : k < 3
        · have hck := HC.out wr hB.out k hlt
          have hz := HZ.out k
          have hz' : ((zs[k]?.getD 0 : Nat) : Int) < 256 := by omega
          by_cases q1 : zs[k]?.getD 0 < 128 ∨ 191 < zs[k]?.getD 0
          · have HF : Hid (numN 224 16 3 zs = -1) := Lib.hid (by rw [HN.out, contB_no zs k 3 hk1 hlt q1]; rfl)
            rcases q1 with q1 | q1
            · have q1' : ((zs[k]?.getD 0 : Nat) : Int) < 128 := by omega
              generalize zs[k]?.getD 0 = y at *
              go_wp2
              go_ret
              exact ⟨by rw [HF.out]; rfl, hB.out⟩
            · have q1' : (191 : Int) < ((zs[k]?.getD 0 : Nat) : Int) := by omega
              generalize zs[k]?.getD 0 = y at *
              go_wp2
              go_ret
              exact ⟨by rw [HF.out]; rfl, hB.out⟩
          · have q1' : (128 : Int) ≤ ((zs[k]?.getD 0 : Nat) : Int) := by omega
            have q2' : ((zs[k]?.getD 0 : Nat) : Int) ≤ 191 := by omega
            have HK' : Hid (contB zs (k + 1) = true) := Lib.hid (by rw [contB_succ zs k hk1, HK.out]; simp; omega)
            have HS : Hid (accZ 224 zs (k + 1) = 64 * accZ 224 zs k + ((zs[k]?.getD 0 : Nat) : Int) - 128) := Lib.hid (by
              obtain ⟨q, rfl⟩ : ∃ q, k = q + 1 := ⟨k - 1, by omega⟩
              rfl)
            clear q1 HBD
            generalize zs[k]?.getD 0 = y at *
            generalize accZ 224 zs k = a at *
            go_wp2
            go_roundw
            case rel => exact ⟨k + 1, by omega, by omega, by go_num, by rw [HS.out], HK', hB⟩
            case measure => simp [intOf]; omega
        · obtain rfl : k = 3 := by omega
          have HF : Hid (numN 224 16 3 zs = accZ 224 zs 3) := Lib.hid (by rw [HN.out, if_pos HK.out])
          go_wp2
          go_ret
          exact ⟨by rw [HF.out]; rfl, hB.out⟩

set_option maxRecDepth 100000 in
set_option maxHeartbeats 1000000 in
theorem number_4 (b off c : Nat) (zs : List Nat) (hn : zs.length = 4) (w : World) (hR : BS w w.heap.size (some ⟨b, off, none⟩) zs) :
    Calls Tryd.prog 80 #[.slice (some ⟨b, off, none⟩) 4 c] w fun e w' => e = .returned (.int .i32 (numN 240 8 4 zs)) ∧ Below w.heap.size w w' := by
  obtain ⟨b', off', e, hb, hc⟩ := hR.2 (by rintro rfl; simp at hn)
  obtain ⟨rfl, rfl⟩ : b = b' ∧ off = off' := by simpa using e
  have HZ : Hid (∀ k, zs[k]?.getD 0 < 256) := Lib.hid fun k => by
    rcases Nat.lt_or_ge k zs.length with h | h
    · rw [List.getElem?_eq_getElem h]; exact hR.1 _ (List.getElem_mem _)
    · rw [List.getElem?_eq_none h]; decide
  have hc0 : w.cell? ⟨b, off, none⟩ = some (.int .u8 (zs[0]?.getD 0 : Nat)) := hc 0 (by omega)
  have HC : Hid (∀ W, Below w.heap.size w W → ∀ k, k < 4 → W.cell? ⟨b, off + k, none⟩ = some (.int .u8 (zs[k]?.getD 0 : Nat))) := Lib.hid fun W hW k hk => (hW.cell (p := ⟨b, off + k, none⟩) hb).trans (hc k (by omega))
  have h256 := HZ.out 0
  have h256' : ((zs[0]?.getD 0 : Nat) : Int) < 256 := by omega
  have hA : Below w.heap.size w (w.alloc (.cells #[.int .i32 0, .int .i32 0, .int .i32 192, .int .i32 224, .int .i32 240] 21)) := (Below.refl _ _).alloc (Nat.le_refl _) _
  have hA2 : Below w.heap.size w ((w.alloc (.cells #[.int .i32 0, .int .i32 0, .int .i32 192, .int .i32 224, .int .i32 240] 21)).alloc (.cells #[.int .i32 0, .int .i32 0, .int .i32 32, .int .i32 16, .int .i32 8] 21)) := hA.alloc hA.size _
  have k0 := (hA.cell (p := ⟨b, off, none⟩) hb).trans hc0
  have k2 := (hA2.cell (p := ⟨b, off, none⟩) hb).trans hc0
  have HA := Lib.hid hA
  have HA2 := Lib.hid hA2
  clear hc hR hA hA2
  by_cases g1 : zs[0]?.getD 0 < 240
  · have HN : Hid (numN 240 8 4 zs = -1) := Lib.hid (by unfold numN; rw [if_pos (.inl g1)])
    have g1' : ((zs[0]?.getD 0 : Nat) : Int) < 240 := by omega
    generalize zs[0]?.getD 0 = z at *
    go_enter Tryd.func80, Tryd.ntmps80
    go_wp2
    go_ret
    exact ⟨by rw [HN.out]; rfl, HA.out⟩
  · by_cases g2 : 240 + 8 ≤ zs[0]?.getD 0
    · have HN : Hid (numN 240 8 4 zs = -1) := Lib.hid (by unfold numN; rw [if_pos (.inr g2)])
      have g1' : (240 : Int) ≤ ((zs[0]?.getD 0 : Nat) : Int) := by omega
      have g2' : (240 + 8 : Int) ≤ ((zs[0]?.getD 0 : Nat) : Int) := by omega
      generalize zs[0]?.getD 0 = z at *
      go_enter Tryd.func80, Tryd.ntmps80
      go_wp2
      go_ret
      exact ⟨by rw [HN.out]; rfl, HA2.out⟩
    · have HN : Hid (numN 240 8 4 zs = if contB zs 4 = true then accZ 240 zs 4 else -1) := Lib.hid (by unfold numN; rw [if_neg (by omega)])
      have g1' : (240 : Int) ≤ ((zs[0]?.getD 0 : Nat) : Int) := by omega
      have g2' : ((zs[0]?.getD 0 : Nat) : Int) < (240 + 8 : Int) := by omega
      have HBD : Hid (∀ k, k ≤ 4 → contB zs k = true → 0 ≤ accZ 240 zs k ∧ accZ 240 zs k ≤ 8388608) := Lib.hid fun k => accZ_bd' 240 8 (by omega) zs (by omega) (by omega) k
      have H1 : Hid (accZ 240 zs 1 = ((zs[0]?.getD 0 : Nat) : Int) - 240) := Lib.hid rfl
      generalize zs[0]?.getD 0 = z at *
      go_enter Tryd.func80, Tryd.ntmps80
      go_wp2
      go_loopw [5, 6] (fun r i wr => ∃ k : Nat, 1 ≤ k ∧ k ≤ 4 ∧ i = .int .i64 k ∧ r = .int .i32 (accZ 240 zs k) ∧ Hid (contB zs k = true) ∧ Hid (Below w.heap.size w wr)) (fun _ i _ => 4 - (intOf i).toNat)
      case atStart => exact ⟨1, Nat.le_refl _, by omega, rfl, by rw [H1.out], Lib.hid rfl, HA2⟩
      case round =>
        obtain ⟨k, hk1, hkn, rfl, rfl, HK, hB⟩ := hrel
        obtain ⟨a0, a1⟩ := HBD.out k (by omega) HK.out
        by_cases hlt : k < 4
        · have hck := HC.out wr hB.out k hlt
          have hz := HZ.out k
          have hz' : ((zs[k]?.getD 0 : Nat) : Int) < 256 := by omega
          by_cases q1 : zs[k]?.getD 0 < 128 ∨ 191 < zs[k]?.getD 0
          · have HF : Hid (numN 240 8 4 zs = -1) := Lib.hid (by rw [HN.out, contB_no zs k 4 hk1 hlt q1]; rfl)
            rcases q1 with q1 | q1
            · have q1' : ((zs[k]?.getD 0 : Nat) : Int) < 128 := by omega
              generalize zs[k]?.getD 0 = y at *
              go_wp2
              go_ret
              exact ⟨by rw [HF.out]; rfl, hB.out⟩
            · have q1' : (191 : Int) < ((zs[k]?.getD 0 : Nat) : Int) := by omega
              generalize zs[k]?.getD 0 = y at *
              go_wp2
              go_ret
              exact ⟨by rw [HF.out]; rfl, hB.out⟩
          · have q1' : (128 : Int) ≤ ((zs[k]?.getD 0 : Nat) : Int) := by omega
            have q2' : ((zs[k]?.getD 0 : Nat) : Int) ≤ 191 := by omega
            have HK' : Hid (contB zs (k + 1) = true) := Lib.hid (by rw [contB_succ zs k hk1, HK.out]; simp; omega)
            have HS : Hid (accZ 240 zs (k + 1) = 64 * accZ 240 zs k + ((zs[k]?.getD 0 : Nat) : Int) - 128) := Lib.hid (by
              obtain ⟨q, rfl⟩ : ∃ q, k = q + 1 := ⟨k - 1, by omega⟩
              rfl)
            clear q1 HBD
            generalize zs[k]?.getD 0 = y at *
            generalize accZ 240 zs k = a at *
            go_wp2
            go_roundw
            case rel => exact ⟨k + 1, by omega, by omega, by go_num, by rw [HS.out], HK', hB⟩
            case measure => simp [intOf]; omega
        · obtain rfl : k = 4 := by omega
          have HF : Hid (numN 240 8 4 zs = accZ 240 zs 4) := Lib.hid (by rw [HN.out, if_pos HK.out])
          go_wp2
          go_ret
          exact ⟨by rw [HF.out]; rfl, hB.out⟩

set_option maxRecDepth 100000 in
theorem number_any (A : Option Addr) (zs : List Nat) (n c : Nat) (hn : n = zs.length) (w : World) (hR : BS w w.heap.size A zs) :
    Calls Tryd.prog 80 #[.slice A n c] w fun e w' => e = .returned (.int .i32 (numZ zs)) ∧ Below w.heap.size w w' := by
  unfold numZ
  rcases (by omega : n = 0 ∨ n = 1 ∨ n = 2 ∨ n = 3 ∨ n = 4 ∨ 4 < n) with h | h | h | h | h | h
  · rw [← hn, h]
    exact number_0 A c w
  · have hl : 0 < zs.length := by omega
    obtain ⟨b, off, rfl, _, hc⟩ := hR.2 (List.length_pos_iff.1 hl)
    have hz : zs[0]?.getD 0 < 256 := by rw [List.getElem?_eq_getElem hl]; exact hR.1 _ (List.getElem_mem _)
    rw [← hn, h]
    exact number_1 b off c _ w hz (hc 0 hl)
  · obtain ⟨b, off, rfl, _, _⟩ := hR.2 (List.length_pos_iff.1 (by omega))
    have := number_2 b off c zs (by omega) w hR
    rw [← hn, h]
    exact this
  · obtain ⟨b, off, rfl, _, _⟩ := hR.2 (List.length_pos_iff.1 (by omega))
    have := number_3 b off c zs (by omega) w hR
    rw [← hn, h]
    exact this
  · obtain ⟨b, off, rfl, _, _⟩ := hR.2 (List.length_pos_iff.1 (by omega))
    have := number_4 b off c zs (by omega) w hR
    rw [← hn, h]
    exact this
  · rw [← hn, if_neg (by omega), if_neg (by omega), if_neg (by omega), if_neg (by omega)]
    exact number_5 A n c h w

end Go.Proofs.YtoiekhjmfoodiaaDoor

namespace Go.Proofs.YtoiekhjmfoodiaaDoor
open Go.RowKit

def scalarB (r : Int) : Bool := decide ((0 ≤ r ∧ r < 55296) ∨ (57343 < r ∧ r ≤ 1114111))
set_option maxHeartbeats 400000 in
set_option maxRecDepth 100000 in
theorem valid_any_u (r : Int) (w : World) :
    Calls Tryd.prog 67 #[.int .i32 r] w fun e w' => e = .returned (.bool (scalarB r)) ∧ w = w' := by
  go_enter Tryd.func67, Tryd.ntmps67
  go_wp2
  all_goals
    go_ret
    refine ⟨?_, rfl⟩
    first
      | (have e : scalarB r = true := decide_eq_true (by omega); rw [e]; rfl)
      | (have e : scalarB r = false := decide_eq_false (by omega); rw [e]; rfl)
def sizeN (c : Nat) : Nat := if c < 128 then 1 else if 194 ≤ c ∧ c ≤ 223 then 2 else if 224 ≤ c ∧ c ≤ 239 then 3 else if 240 ≤ c ∧ c ≤ 244 then 4 else 0
set_option maxHeartbeats 400000 in
set_option maxRecDepth 100000 in
theorem put_yes (r : Int) (h : scalarB r = true) (w : World) :
    Calls Tryd.prog 61 #[.int .i32 r] w fun e w' => e = .returned (.string (Utf8.encode r)) ∧ w = w' := by
  have hv := valid_any_u r
  rw [h] at hv
  clear h
  go_enter Tryd.func61, Tryd.ntmps61
  go_wp2_with (go_at_call 67; refine (hv _).mono ?_; clear hv; rintro e w1 ⟨rfl, rfl⟩)
  go_ret
  exact ⟨rfl, rfl⟩
set_option maxHeartbeats 400000 in
set_option maxRecDepth 100000 in
theorem put_no (r : Int) (h : scalarB r = false) (w : World) :
    Calls Tryd.prog 61 #[.int .i32 r] w fun e w' => e = .returned (.string ByteArray.empty) ∧ w = w' := by
  have hv := valid_any_u r
  rw [h] at hv
  clear h
  go_enter Tryd.func61, Tryd.ntmps61
  go_wp2_with (go_at_call 67; refine (hv _).mono ?_; clear hv; rintro e w1 ⟨rfl, rfl⟩)
  go_ret
  exact ⟨rfl, rfl⟩

end Go.Proofs.YtoiekhjmfoodiaaDoor
