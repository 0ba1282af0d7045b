/- The walk of width.clusters: what is handed on, cluster by cluster. -/
import Derived.RangeFuncNested
import Derived.RangeFuncBound
import Derived.RangeFuncCalls
import Derived.RangeFuncLeaves
import Derived.RangeFuncBox
import Derived.Shelf.Abstract
import Derived.Shelf.RegionOpen
import Derived.OwnWalkIn
import Derived.TacticsInMore
import Derived.LoopNIn
import Derived.LoopIn
import Derived.Maps.AppendAt
import Derived.Test.YtacmldggdacdpabDoorWd
namespace Go.Proofs.YtacmldggdacdpabDoor
open Go.RowKit Go.Shelf
attribute [local go_sem] Oper.semAt_some

/-- The clusters of the first k scalars: those that are whole, and where the last one begins. -/
def cl (xs : List Int) : Nat → List (Nat × Nat) × Nat
  | 0 => ([], 0)
  | k + 1 => if 0 < k ∧ begB (xs[k - 1]?.getD 0) (xs[k]?.getD 0) = true then ((cl xs k).1 ++ [((cl xs k).2, k)], k) else cl xs k
/-- The clusters: from, to. -/
def pairs (xs : List Int) : List (Nat × Nat) := if xs.length = 0 then [] else (cl xs xs.length).1 ++ [((cl xs xs.length).2, xs.length)]
theorem cl_one (xs : List Int) : cl xs 1 = ([], 0) := by simp [cl]
theorem cl_yes (xs : List Int) (k : Nat) (hk : 0 < k) (h : begB (xs[k - 1]?.getD 0) (xs[k]?.getD 0) = true) : cl xs (k + 1) = ((cl xs k).1 ++ [((cl xs k).2, k)], k) := by
  rw [cl, if_pos ⟨hk, h⟩]
theorem cl_no (xs : List Int) (k : Nat) (h : begB (xs[k - 1]?.getD 0) (xs[k]?.getD 0) = false) : cl xs (k + 1) = cl xs k := by
  rw [cl, if_neg (by simp [h])]
theorem cl_bd (xs : List Int) (k : Nat) : (cl xs k).1.length ≤ (cl xs k).2 ∧ ((cl xs k).2 < k ∨ k = 0) := by
  induction k with
  | zero => simp [cl]
  | succ k ih =>
    rw [cl]
    split
    · rename_i h
      simp only [List.length_append, List.length_cons, List.length_nil]
      omega
    · have : k = 0 → (cl xs k).2 = 0 := fun e => by subst e; rfl
      omega

theorem grown_of_below {a w : World} (h : Below a.heap.size a w) : a.grownBy w none := ⟨h.os, h.tape, h.output, h.size, fun i hi _ => h.block i hi⟩
theorem abides_below {β : Type} {B : Nat} {J : β → World → Prop} (hJ : AbidesFrom B J) {s : β} {A C : World} (h : J s A) (hb : Below A.heap.size A C) : J s C :=
  hJ s A C none h (grown_of_below hb) (fun _ e => by cases e)
def Pc (n : Nat) : Type := { x : Nat × Nat // x.1 < x.2 ∧ x.2 ≤ n }
def mkPc (n f k : Nat) (h1 : f < k) (h2 : k ≤ n) : Pc n := ⟨(f, k), h1, h2⟩
theorem map_mkPc {n : Nat} (pre : List (Pc n)) (f k : Nat) (h1 : f < k) (h2 : k ≤ n) : (pre ++ [mkPc n f k h1 h2]).map (·.1) = pre.map (·.1) ++ [(f, k)] := by
  rw [List.map_append]; rfl
theorem cl_mono (xs : List Int) (k j : Nat) : (cl xs k).1 <+: (cl xs (k + j)).1 := by
  induction j with
  | zero => exact List.prefix_refl _
  | succ j ih =>
    refine ih.trans ?_
    rw [← Nat.add_assoc, cl]
    split
    · exact List.prefix_append _ _
    · exact List.prefix_refl _
theorem cl_pairs (xs : List Int) (k : Nat) (hk : k ≤ xs.length) (h0 : xs.length ≠ 0) : (cl xs k).1 <+: pairs xs := by
  unfold pairs
  rw [if_neg h0]
  have := cl_mono xs k (xs.length - k)
  rw [show k + (xs.length - k) = xs.length by omega] at this
  exact this.trans (List.prefix_append _ _)

/-- What a round keeps: all below n₀, and the box in which the list lies. -/
def KpB (n₀ Bs : Nat) (W W' : World) : Prop := Below n₀ W W' ∧ W'.heap[Bs]? = W.heap[Bs]?
theorem KpB.refl (n₀ Bs : Nat) (W : World) : KpB n₀ Bs W W := ⟨Below.refl _ _, rfl⟩
theorem KpB.trans {n₀ Bs : Nat} {A B C : World} (h : KpB n₀ Bs A B) (k : KpB n₀ Bs B C) : KpB n₀ Bs A C := ⟨h.1.trans k.1, k.2.trans h.2⟩
theorem KpB.of_below {n₀ Bs : Nat} {A B : World} (h : Below A.heap.size A B) (hn : n₀ ≤ A.heap.size) (hB : Bs < A.heap.size) : KpB n₀ Bs A B := ⟨h.mono hn, h.block Bs hB⟩
theorem KpB.cell {n₀ Bs : Nat} {A B : World} (h : KpB n₀ Bs A B) : B.cell? ⟨Bs, 0, none⟩ = A.cell? ⟨Bs, 0, none⟩ := World.cell?_of_block h.2
theorem KpB.put {n₀ Bs : Nat} {w : World} (hn : n₀ ≤ w.heap.size) (hB : Bs < w.heap.size) (W : World) (l : Nat) (o o' : Obj) (hl : w.heap.size ≤ l) (h : W.heap[l]? = some o) (h1 : o.isCells = false) (h2 : o.isWalk = false) : KpB n₀ Bs W (W.putObj l o') :=
  ⟨belowK_b hn W l o o' hl h h1 h2, (grownBy_putObj' W l o').block Bs (by have := (Array.getElem?_eq_some_iff.1 h).1; omega) (fun e => by injection e; omega)⟩

set_option maxRecDepth 100000 in
set_option maxHeartbeats 2000000 in
theorem clusters1_in (m : Nat) (hm : 1 ≤ m) (l Bs n₀ b off n c : Nat) (xs : List Int) (hn : n = xs.length) (hpos : 0 < n) (hcap : n ≤ c) (hlen : c ≤ 9223372036854775807) (hb : b < n₀) (J Jx : List (Pc n) → World → Prop)
    (hY : ∀ pre x W, J pre W → pre.length < n → YieldAt Fence.wide (m - 1) Tryd.prog l #[.slice (some ⟨b, off + x.1.1, none⟩) (x.1.2 - x.1.1) (c - x.1.1)] W fun e W' =>
      (e = .returned (.bool true) ∧ J (pre ++ [x]) W' ∧ KpB n₀ Bs W W') ∨ (e = .returned (.bool false) ∧ Jx (pre ++ [x]) W'))
    (W : World) (h2 : 2 ≤ n₀) (hn0 : n₀ ≤ W.heap.size) (hT : WT W) (hJa : AbidesFrom W.heap.size J) (hBn : Bs < W.heap.size) (hBs : W.cell? ⟨Bs, 0, none⟩ = some (.slice (some ⟨b, off, none⟩) n c))
    (hc : ∀ j, j < n → W.cell? ⟨b, off + j, none⟩ = some (.int .i32 (xs[j]?.getD 0))) (h0 : J [] W) :
    CallsIn Fence.wide m Tryd.prog 19 #[.func (.yield l) #[] #[], .pointer (some ⟨Bs, 0, none⟩)] W fun e W' => (∃ v, e = .returned v) ∧
      ((∃ ys : List (Pc n), ys.map (·.1) = pairs xs ∧ J ys W') ∨ (∃ pre : List (Pc n), pre.map (·.1) <+: pairs xs ∧ Jx pre W')) := by
  have HN := Lib.hid hn
  clear hn
  have HY := Lib.hid hY
  clear hY
  have HC := Lib.hid hc
  clear hc
  refine callsIn_of_wp Tryd.func19 rfl trivial ?_ rfl
  simp only [Tryd.ntmps19, List.size_toArray, List.length_cons, List.length_nil, Nat.reduceAdd, Nat.reduceSub, Array.replicate_succ, Array.replicate_zero, List.push_toArray, List.append_toArray, List.nil_append, List.cons_append]
  gi_wp2
  gi_loopw [3, 4] (fun fr i wr => ∃ (k f : Nat) (pre : List (Pc n)), 1 ≤ k ∧ k ≤ n ∧ f < k ∧ i = .int .i64 k ∧ fr = .int .i64 f ∧ Hid (cl xs k = (pre.map (·.1), f)) ∧ J pre wr ∧ Hid (KpB n₀ Bs W wr))
    (fun _ i _ => n - (intOf i).toNat)
  case atStart => exact ⟨1, 0, [], by omega, by omega, by omega, rfl, rfl, Lib.hid (cl_one xs), h0, Lib.hid (KpB.refl _ _ _)⟩
  case round =>
    obtain ⟨k, f, pre, hk1, hkn, hfk, rfl, rfl, HK, hJs, hnx⟩ := hrel
    have hBs' : wr.cell? ⟨Bs, 0, none⟩ = some (.slice (some ⟨b, off, none⟩) n c) := hnx.out.cell.trans hBs
    by_cases hlt : k < n
    · have hc0 : wr.cell? ⟨b, off + (k - 1), none⟩ = some (.int .i32 (xs[k - 1]?.getD 0)) := (hnx.out.1.cell (p := ⟨b, off + (k - 1), none⟩) hb).trans (HC.out _ (by omega))
      have hc1 : wr.cell? ⟨b, off + k, none⟩ = some (.int .i32 (xs[k]?.getD 0)) := (hnx.out.1.cell (p := ⟨b, off + k, none⟩) hb).trans (HC.out _ hlt)
      gi_wp2
      have s1 : IntKind.i64.wrap ((k : Int) - 1) = (k : Int) - 1 := IntWalk.i64_in _ (by omega)
      have s2 : ((k : Int) - 1).toNat = k - 1 := by omega
      have s3 : (k : Int) - 1 < n := by omega
      have s4 : 1 ≤ (k : Int) := by omega
      have s5 : (k : Int) < n := by omega
      refine wpIn_wide.2 ?_
      go_still_tail 9, (by kernel_rfl)
      change wpList _ _ _ _ _ wr.drew
      clear s1 s2
      have hJd : J pre wr.drew := abides_below hJa hJs ((Below.refl _ _).drew)
      have hszr : W.heap.size ≤ wr.heap.size := hnx.out.1.size
      have hBd : KpB n₀ Bs W wr.drew := hnx.out.trans (KpB.of_below ((Below.refl _ _).drew) (Nat.le_trans hn0 hszr) (Nat.lt_of_lt_of_le hBn hszr))
      have hd := begins_any (xs[k - 1]?.getD 0) (xs[k]?.getD 0) wr.drew (hT.from hBd.1 h2)
      have hsz : W.heap.size ≤ wr.drew.heap.size := hBd.1.size
      clear hszr
      have hBs2 : wr.drew.cell? ⟨Bs, 0, none⟩ = some (.slice (some ⟨b, off, none⟩) n c) := hBs'
      clear hc0 hc1 hBs'
      generalize wr.drew = w2 at *
      cases hbb : begB (xs[k - 1]?.getD 0) (xs[k]?.getD 0) with
      | false =>
        have HK' : Hid (cl xs (k + 1) = (pre.map (·.1), f)) := Lib.hid ((cl_no xs k hbb).trans HK.out)
        rw [hbb] at hd
        clear hbb HK hBs2 s3 s4 s5
        go_wp2_with (go_at_call 20; refine hd.mono ?_; rintro e w3 ⟨rfl, hb3⟩; have hJ3 := abides_below hJa hJd hb3; have hB3 : Hid (KpB n₀ Bs W w3) := Lib.hid (hBd.trans (KpB.of_below hb3 (Nat.le_trans hn0 hsz) (Nat.lt_of_lt_of_le hBn hsz))); clear hJd hBd hd)
        gi_wp2
        go_roundw
        case rel => exact ⟨k + 1, f, pre, by omega, by omega, by omega, by go_num, rfl, HK', hJ3, hB3⟩
        case measure => simp [intOf]; omega
      | true =>
        have HK' : Hid (cl xs (k + 1) = ((pre ++ [mkPc n f k hfk hkn]).map (·.1), k)) := Lib.hid (by
          rw [cl_yes xs k hk1 hbb, HK.out, map_mkPc])
        have HP : Hid ((pre ++ [mkPc n f k hfk hkn]).map (·.1) <+: pairs xs) := Lib.hid (by
          have := cl_pairs xs (k + 1) (by have := HN.out; omega) (by have := HN.out; omega)
          rw [HK'.out] at this; exact this)
        have hpl : pre.length < n := by
          have := (cl_bd xs k).1
          rw [HK.out] at this
          simp at this
          omega
        rw [hbb] at hd
        clear hbb HK s3 s4 s5
        go_wp2_with (go_at_call 20; refine hd.mono ?_; rintro e w3 ⟨rfl, hb3⟩; have hJ3 := abides_below hJa hJd hb3; have hB3 : Hid (KpB n₀ Bs W w3) := Lib.hid (hBd.trans (KpB.of_below hb3 (Nat.le_trans hn0 hsz) (Nat.lt_of_lt_of_le hBn hsz))); have hBs3 := (hb3.cell (p := ⟨Bs, 0, none⟩) (Nat.lt_of_lt_of_le hBn hsz)).trans hBs2; clear hJd hBd hd hBs2)
        obtain ⟨fn, tmps, assign, body, hy, hR⟩ := HY.out pre (mkPc n f k hfk hkn) w3 hJ3 hpl
        dsimp only [mkPc] at hy
        gi_wp2
        refine hR.mono ?_
        rintro e W3 (⟨rfl, hJ4, hk4⟩ | ⟨rfl, hJx4⟩)
        · gi_wp2
          go_roundw
          case rel => exact ⟨k + 1, k, _, by omega, by omega, by omega, by go_num, rfl, HK', hJ4, Lib.hid (hB3.out.trans hk4)⟩
          case measure => simp [intOf]; omega
        · gi_wp2
          refine bodyPost_ret (results_none rfl _ _ _) rfl ?_
          exact ⟨⟨_, rfl⟩, .inr ⟨_, HP.out, hJx4⟩⟩
    · obtain rfl : k = n := by omega
      have HP : Hid ((pre ++ [mkPc k f k hfk hkn]).map (·.1) = pairs xs) := Lib.hid (by
        unfold pairs; rw [if_neg (by have := HN.out; omega), ← HN.out, HK.out, map_mkPc])
      have hpl : pre.length < k := by
        have := (cl_bd xs k).1
        rw [HK.out] at this
        simp at this
        omega
      have hcf : ¬ c = f := by omega
      obtain ⟨fn, tmps, assign, body, hy, hR⟩ := HY.out pre (mkPc k f k hfk hkn) wr hJs hpl
      dsimp only [mkPc] at hy
      clear HK
      gi_wp2
      refine hR.mono ?_
      rintro e W3 (⟨rfl, hJ4, hk4⟩ | ⟨rfl, hJx4⟩)
      · gi_wp2
        go_end0
        exact ⟨⟨_, rfl⟩, .inl ⟨_, HP.out, hJ4⟩⟩
      · gi_wp2
        go_end0
        exact ⟨⟨_, rfl⟩, .inr ⟨_, by rw [HP.out]; exact List.prefix_refl _, hJx4⟩⟩

set_option maxRecDepth 100000 in
set_option maxHeartbeats 1000000 in
theorem clusters1_nil (m : Nat) (l Bs c : Nat) (A : Option Addr) (J : List (Pc 0) → World → Prop) (W : World) (hBs : W.cell? ⟨Bs, 0, none⟩ = some (.slice A 0 c)) (h0 : J [] W) :
    CallsIn Fence.wide m Tryd.prog 19 #[.func (.yield l) #[] #[], .pointer (some ⟨Bs, 0, none⟩)] W fun e W' => (∃ v, e = .returned v) ∧ J [] W' := by
  refine callsIn_of_wp Tryd.func19 rfl trivial ?_ rfl
  simp only [Tryd.ntmps19, List.size_toArray, List.length_cons, List.length_nil, Nat.reduceAdd, Nat.reduceSub, Array.replicate_succ, Array.replicate_zero, List.push_toArray, List.append_toArray, List.nil_append, List.cons_append]
  gi_wp2
  gi_loopw [3, 4] (fun f i wr => f = .int .i64 0 ∧ i = .int .i64 1 ∧ wr.cell? ⟨Bs, 0, none⟩ = some (.slice A 0 c) ∧ J [] wr) (fun _ _ _ => 0)
  case atStart => exact ⟨rfl, rfl, hBs, h0⟩
  case round =>
    obtain ⟨rfl, rfl, hBr, hJs⟩ := hrel
    gi_wp2
    go_end0
    exact ⟨⟨_, rfl⟩, hJs⟩

set_option maxHeartbeats 1000000 in
theorem clusters_in (m : Nat) (A : Option Addr) (n c : Nat) (w : World) :
    CallsIn Fence.wide m Tryd.prog 17 #[.slice A n c] w fun e w' => e = .returned (.func (.func 19) #[] #[.pointer (some ⟨w.heap.size, 0, none⟩)]) ∧ w' = w.alloc (.cells #[.slice A n c] 24) := by
  refine callsIn_of_wp Tryd.func17 rfl trivial ?_ rfl
  simp only [Tryd.ntmps17, List.size_toArray, List.length_cons, List.length_nil, Nat.reduceAdd, Nat.reduceSub, Array.replicate_succ, Array.replicate_zero, List.push_toArray, List.append_toArray, List.nil_append, List.cons_append]
  gi_wp2
  go_ret
  exact ⟨rfl, rfl⟩

def encV (A : Option Addr) (c n : Nat) (x : Pc n) : Value := .slice (A.map fun a => ⟨a.block, a.off + x.1.1, none⟩) (x.1.2 - x.1.1) (c - x.1.1)

/-- clusters(l) hands back a value that hands on l's clusters, in order. -/
theorem clusters_stops (m : Nat) (hm : 1 ≤ m) (Bs n₀ : Nat) (A : Option Addr) (xs : List Int) (c : Nat) (hcap : xs.length ≤ c) (hlen : c ≤ 9223372036854775807) (w : World) (h2 : 2 ≤ n₀) (hn0 : n₀ ≤ w.heap.size) (hBn : Bs < w.heap.size)
    (hT : WT w) (hR : RS w n₀ A xs) (hBs : w.cell? ⟨Bs, 0, none⟩ = some (.slice A xs.length c)) :
    SeqStopsK Fence.wide m Tryd.prog 19 #[.pointer (some ⟨Bs, 0, none⟩)] (fun x => #[encV A c xs.length x]) (KpB n₀ Bs) (fun ys => ys.map (·.1) = pairs xs) (fun pre => pre.map (·.1) <+: pairs xs) xs.length w := by
  intro l J Jx W hW hJ hJx hY h0
  have hBs' := (hW.cell (p := ⟨Bs, 0, none⟩) hBn).trans hBs
  by_cases hx : xs = []
  · subst hx
    refine (clusters1_nil m l Bs c A J W hBs' h0).mono ?_
    rintro e W' ⟨he, hj⟩
    exact ⟨he, .inl ⟨[], rfl, hj⟩⟩
  · obtain ⟨b, off, rfl, hb, hc⟩ := hR hx
    exact clusters1_in m hm l Bs n₀ b off xs.length c xs rfl (List.length_pos_iff.2 hx) hcap hlen hb J Jx hY W h2 (Nat.le_trans hn0 hW.size) (hT.below hW) hJ (Nat.lt_of_lt_of_le hBn hW.size) hBs' (fun j hj => (hW.cell (p := ⟨b, off + j, none⟩) (Nat.lt_of_lt_of_le hb hn0)).trans (hc j hj)) h0

end Go.Proofs.YtacmldggdacdpabDoor
