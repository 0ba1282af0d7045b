/- The walk of slices.Backward over blocks: they are handed on from the last to the first. -/
import Derived.RangeFuncNested
import Derived.RangeFuncBound
import Derived.RangeFuncCalls
import Derived.RangeFuncLeaves
import Derived.RangeFuncBox
import Derived.Shelf.Abstract
import Derived.Shelf.RegionOpen
import Derived.OwnWalkIn
import Derived.TacticsInMore
import Derived.LoopNIn
import Derived.LoopIn
import Derived.Sort.CutIn
import Derived.Test.YtfgnlohnalgnpaaG1
namespace Go.Proofs.Ytfgnlohnalgnpaa
open Go.RowKit Go.Shelf
attribute [local go_sem] Oper.semAt_some

theorem abides_below {β : Type} {B : Nat} {J : β → World → Prop} (hJ : AbidesFrom B J) {s : β} {A C : World} (h : J s A) (hb : Below A.heap.size A C) : J s C :=
  hJ s A C none h ⟨hb.os, hb.tape, hb.output, hb.size, fun i hi _ => hb.block i hi⟩ (fun _ e => by cases e)
/-- A load of a whole row, inside a fence. -/
theorem wpListIn_load_mid {F : Fence} {nF : Nat} {P : Program} {ops : Array Oper} {rest : List Oper} {op : Oper} {a : Act} {w : World} {Q : Exit → Act → World → Prop} (hgd : op.guard = none) (ty : TypeId) (x : Operand) (ho : op.op = .load ty x)
    (b o : Nat) (hx : a.eval x = .pointer (some ⟨b, o, none⟩)) (cs : List Value) (d : TypeDesc) (hc : w.rangeAt b o cs)
    (hu : P.underlying ty = some d) (hd : d.isRow = true) (hi : (P.info? ty).map (·.size) = some cs.length)
    (h : wpListIn F nF P ops Q rest (a.put op.dst (.agg cs.toArray)) w) : wpListIn F nF P ops Q (op :: rest) a w :=
  wpListIn_plain hgd fun K hK => by
    have hsem : Oper.semAt F.round a.eval op = execOp a.eval op := by unfold Oper.semAt; rw [ho]; cases F.round <;> rfl
    refine ⟨fun f hf => ?_, ?_⟩
    · unfold Oper.about at hf; rw [ho] at hf; cases hf
    · rw [hsem]
      unfold execOp
      simp only [ho, hx, Instr.loadAt, Instr.sureAddr, Sem.run_bind, Sem.run_pure, Result.andThen_ok, run_loadVar_mid w b o ty cs d hc hu hd hi]
      exact hK _ _ h

/-- From the last to the first. -/
def downN (n : Nat) : List Nat := (List.range n).reverse
theorem down_succ (k : Nat) : downN (k + 1) = k :: downN k := by simp [downN, List.range_succ]

set_option maxRecDepth 100000 in
set_option maxHeartbeats 2000000 in
theorem back1_in (m : Nat) (hm : 1 ≤ m) (l Bs n₀ b off n c : Nat) (L : List Bk) (hn : n = L.length) (hlen : n ≤ 1000) (J Jx : List Nat → World → Prop)
    (hY : ∀ pre (x : Nat) W, J pre W → pre.length < n → YieldAt Fence.wide (m - 1) Try.prog l #[.int .i64 (x : Int), .agg (boxB (Bt L x))] W fun e W' =>
      (e = .returned (.bool true) ∧ J (pre ++ [x]) W' ∧ Below n₀ W W') ∨ (e = .returned (.bool false) ∧ Jx (pre ++ [x]) W'))
    (W : World) (hBn : Bs < n₀) (hBs : W.cell? ⟨Bs, 0, none⟩ = some (.slice (some ⟨b, off, none⟩) n c))
    (hG : ∀ W', Below n₀ W W' → ∀ i, i < n → BC W' b (off + i * 17) (Bt L i)) (h0 : J [] W) :
    CallsIn Fence.wide m Try.prog 42 #[.func (.yield l) #[] #[], .pointer (some ⟨Bs, 0, none⟩)] W fun e W' => (∃ v, e = .returned v) ∧
      ((∃ ys : List Nat, ys = downN n ∧ J ys W') ∨ (∃ pre : List Nat, pre <+: downN n ∧ Jx pre W')) := by
  have HN := Lib.hid hn
  have HY := Lib.hid hY
  have HG := Lib.hid hG
  have HC := Lib.hid (fun W' (h : Below n₀ W W') => (h.cell (p := ⟨Bs, 0, none⟩) hBn).trans hBs)
  clear hn hY hG
  refine callsIn_of_wp Try.func42 rfl trivial ?_ rfl
  simp only [Try.ntmps42, List.size_toArray, List.length_cons, List.length_nil, Nat.reduceAdd, Nat.reduceSub, Array.replicate_succ, Array.replicate_zero, List.push_toArray, List.append_toArray, List.nil_append, List.cons_append]
  gi_wp2
  gi_loopw [3] (fun v wr => ∃ (k : Nat) (pre : List Nat), k ≤ n ∧ pre.length + k = n ∧ v = .int .i64 ((k : Int) - 1) ∧ Hid (downN n = pre ++ downN k) ∧ J pre wr ∧ Hid (Below n₀ W wr))
    (fun v _ => match v with | .int _ q => (q + 1).toNat | _ => 0)
  case atStart => exact ⟨n, [], by omega, by simp, rfl, Lib.hid rfl, h0, Lib.hid (Below.refl _ _)⟩
  case round =>
    obtain ⟨k, pre, hkn, hpk, rfl, HK, hJs, hnx⟩ := hrel
    cases k with
    | zero =>
      gi_wp2
      go_end0
      exact ⟨⟨_, rfl⟩, .inl ⟨pre, by rw [HK.out]; simp [downN], hJs⟩⟩
    | succ k =>
      have hK1 : Hid (((k + 1 : Nat) : Int) - 1 = k) := Lib.hid (by omega)
      rw [hK1.out]
      have hcs := HC.out _ hnx.out
      have HRG := Lib.hid (HG.out _ hnx.out k (by omega)).range
      have HBE : Hid ((encB (Bt L k)).toArray = boxB (Bt L k)) := Lib.hid rfl
      have HBLN : Hid ((encB (Bt L k)).length = 17) := Lib.hid rfl
      have HYL := Lib.hid (HY.out pre k wr hJs (by omega))
      have hki : (k : Int) < n := by omega
      generalize boxB (Bt L k) = bx at *
      generalize encB (Bt L k) = eb at *
      gi_upto_region 3 with fail
      refine wpIn_region_lit ?_
      iterate 5 (refine wpListIn_plain rfl (fun K hK => ?_); go_simp; refine hK _ _ ?_; clear hK K)
      refine wpListIn_load_mid rfl 39 (.tmp 15) rfl b (off + k * 17) rfl eb _ HRG.out Try.underlying39 rfl (by rw [infoBk, HBLN.out]) ?_
      rw [HBE.out]
      obtain ⟨fn, tmps, assign, body, hy, hR⟩ := HYL.out
      gi_wp2
      refine hR.mono ?_
      rintro e W3 (⟨rfl, hJ4, hk4⟩ | ⟨rfl, hJx4⟩)
      · have HB3 : Hid (Below n₀ W W3) := Lib.hid (hnx.out.trans hk4)
        have HK3 : Hid (downN n = (pre ++ [k]) ++ downN k) := Lib.hid (by rw [HK.out, down_succ]; simp)
        gi_wp2
        go_roundw
        case rel => exact ⟨k, pre ++ [k], by omega, by simp; omega, rfl, HK3, hJ4, HB3⟩
        case measure => show ((k : Int) - 1 + 1).toNat < ((k : Int) + 1).toNat; omega
      · gi_wp2
        refine bodyPost_ret (results_none rfl _ _ _) rfl ?_
        exact ⟨⟨_, rfl⟩, .inr ⟨_, by rw [HK.out, down_succ]; simp, hJx4⟩⟩

set_option maxRecDepth 100000 in
set_option maxHeartbeats 1000000 in
theorem back1_nil (m : Nat) (_hm : 1 ≤ m) (l Bs c : Nat) (A : Option Addr) (J : List Nat → World → Prop) (W : World) (hBs : W.cell? ⟨Bs, 0, none⟩ = some (.slice A 0 c)) (h0 : J [] W) :
    CallsIn Fence.wide m Try.prog 42 #[.func (.yield l) #[] #[], .pointer (some ⟨Bs, 0, none⟩)] W fun e W' => (∃ v, e = .returned v) ∧ J [] W' := by
  refine callsIn_of_wp Try.func42 rfl trivial ?_ rfl
  simp only [Try.ntmps42, List.size_toArray, List.length_cons, List.length_nil, Nat.reduceAdd, Nat.reduceSub, Array.replicate_succ, Array.replicate_zero, List.push_toArray, List.append_toArray, List.nil_append, List.cons_append]
  gi_wp2
  gi_loopw [3] (fun v wr => v = .int .i64 (-1) ∧ wr = W) (fun _ _ => 0)
  case atStart => exact ⟨rfl, rfl⟩
  case round =>
    obtain ⟨rfl, rfl⟩ := hrel
    gi_wp2
    go_end0
    exact ⟨⟨_, rfl⟩, h0⟩

set_option maxHeartbeats 1000000 in
theorem back_in (m : Nat) (A : Option Addr) (n c : Nat) (w : World) :
    CallsIn Fence.wide m Try.prog 36 #[.slice A n c] w fun e w' => e = .returned (.func (.func 42) #[] #[.pointer (some ⟨w.heap.size, 0, none⟩)]) ∧ w' = w.alloc (.cells #[.slice A n c] 35) := by
  refine callsIn_of_wp Try.func36 rfl trivial ?_ rfl
  simp only [Try.ntmps36, List.size_toArray, List.length_cons, List.length_nil, Nat.reduceAdd, Nat.reduceSub, Array.replicate_succ, Array.replicate_zero, List.push_toArray, List.append_toArray, List.nil_append, List.cons_append]
  gi_wp2
  go_ret
  exact ⟨rfl, rfl⟩

theorem back_stops (m : Nat) (hm : 1 ≤ m) (Bs : Nat) (A : Option Addr) (L : List Bk) (n c : Nat) (hn : n = L.length) (hlen : n ≤ 1000) (w : World) (hBn : Bs < w.heap.size) (hR : RK encB 17 w A L) (hBs : w.cell? ⟨Bs, 0, none⟩ = some (.slice A n c)) :
    SeqStopsK Fence.wide m Try.prog 42 #[.pointer (some ⟨Bs, 0, none⟩)] (fun x : Nat => #[.int .i64 (x : Int), .agg (boxB (Bt L x))]) (Below w.heap.size) (fun ys => ys = downN n) (fun pre => pre <+: downN n) n w := by
  intro l J Jx W hW hJ hJx hY h0
  have hBs' := (hW.cell (p := ⟨Bs, 0, none⟩) hBn).trans hBs
  by_cases hx : L = []
  · subst hx
    obtain rfl : n = 0 := hn
    refine (back1_nil m hm l Bs c A J W hBs' h0).mono ?_
    rintro e W' ⟨he, hj⟩
    exact ⟨he, .inl ⟨[], rfl, hj⟩⟩
  · obtain ⟨b, off, rfl, hG⟩ := hR.bk hx
    exact back1_in m hm l Bs w.heap.size b off n c L hn hlen J Jx hY W hBn hBs' (fun W' hb i hi => (hG W' (hW.trans hb)).2 i (hn ▸ hi)) h0

end Go.Proofs.Ytfgnlohnalgnpaa
