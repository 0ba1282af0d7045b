/- What is settled of bytes, and the walk of utf.settled: it is handed on, one scalar after the other. -/
import Derived.RangeFuncNested
import Derived.RangeFuncBound
import Derived.RangeFuncCalls
import Derived.RangeFuncLeaves
import Derived.RangeFuncBox
import Derived.Shelf.Abstract
import Derived.Shelf.RegionOpen
import Derived.OwnWalkIn
import Derived.TacticsInMore
import Derived.LoopNIn
import Derived.LoopIn
import Derived.Maps.AppendAt
import Derived.Test.YtmmkcfjncpcabaaDoorUc
namespace Go.Proofs.YtmmkcfjncpcabaaDoor
open Go.RowKit Go.Shelf
attribute [local go_sem] Oper.semAt_some

theorem begF_bd (zs : List Nat) : 1 ≤ begF zs ∧ begF zs ≤ 4 ∧ (0 < zs.length → begF zs ≤ zs.length) := by
  unfold begF
  split
  · omega
  · split
    · rename_i h _; exact ⟨by omega, by omega, fun _ => by rcases Nat.lt_or_ge 1 zs.length with h1 | h1; omega; exact absurd (.inl h1) h⟩
    · rename_i h h2
      split
      · exact ⟨by omega, by omega, fun _ => by rcases Nat.lt_or_ge 2 zs.length with h1 | h1; omega; exact absurd (.inl h1) h2⟩
      · rename_i h3; exact ⟨by omega, by omega, fun _ => by rcases Nat.lt_or_ge 3 zs.length with h1 | h1; omega; exact absurd (.inl h1) h3⟩
theorem decN_bd (zs : List Nat) (h : 0 < zs.length) : 1 ≤ (decN zs).2 ∧ (decN zs).2 ≤ 4 ∧ (decN zs).2 ≤ zs.length := by
  unfold decN Lib.decodeN
  repeat' split
  all_goals (simp only; omega)
theorem firstF_bd (zs : List Nat) (h : 0 < zs.length) : 1 ≤ (firstF zs).2 ∧ (firstF zs).2 ≤ 4 ∧ (firstF zs).2 ≤ zs.length := by
  unfold firstF
  split
  · have := begF_bd zs; exact ⟨this.1, this.2.1, this.2.2 h⟩
  · exact decN_bd zs h
theorem fullB_pos {zs : List Nat} (h : fullB zs = true) : 0 < zs.length := by
  unfold fullB fullN fullX at h
  have := (of_decide_eq_true h).1
  omega
def rdN : Nat → List Nat → List (Nat × Nat)
  | 0, _ => []
  | f + 1, zs => if fullB zs = true then firstF zs :: rdN f (zs.drop (firstF zs).2) else []
/-- What is settled of bytes: each scalar, and how many bytes it has. -/
def rdL (zs : List Nat) : List (Nat × Nat) := rdN zs.length zs
theorem rdN_step : ∀ (f : Nat) (zs : List Nat), zs.length ≤ f → rdN f zs = rdN (f + 1) zs
  | 0, zs, h => by
    have h0 : zs = [] := List.eq_nil_of_length_eq_zero (by omega)
    subst h0
    rfl
  | f + 1, zs, h => by
    rw [rdN]
    rw [rdN]
    split
    · rename_i hf
      have hb := firstF_bd zs (fullB_pos hf)
      rw [rdN_step f (zs.drop (firstF zs).2) (by rw [List.length_drop]; omega)]
    · rfl
theorem rdN_all (zs : List Nat) (d : Nat) : rdN (zs.length + d) zs = rdL zs := by
  induction d with
  | zero => rfl
  | succ d ih => exact (rdN_step (zs.length + d) zs (by omega)).symm.trans ih
theorem rdL_yes (zs : List Nat) (h : fullB zs = true) : rdL zs = firstF zs :: rdL (zs.drop (firstF zs).2) := by
  have hb := firstF_bd zs (fullB_pos h)
  have e : rdL zs = rdN (zs.length - 1 + 1) zs := by rw [show zs.length - 1 + 1 = zs.length by omega]; rfl
  rw [e, rdN, if_pos h]
  have hl : (zs.drop (firstF zs).2).length = zs.length - (firstF zs).2 := List.length_drop
  have := rdN_all (zs.drop (firstF zs).2) (zs.length - 1 - (zs.drop (firstF zs).2).length)
  rw [show (zs.drop (firstF zs).2).length + (zs.length - 1 - (zs.drop (firstF zs).2).length) = zs.length - 1 by omega] at this
  rw [this]
theorem rdL_no (zs : List Nat) (h : fullB zs = false) : rdL zs = [] := by
  unfold rdL
  cases hl : zs.length with
  | zero => rfl
  | succ f => rw [rdN, if_neg (by rw [h]; decide)]

/-- What is handed on: no more than four bytes each. -/
def Sc : Type := { x : Nat × Nat // x.2 ≤ 4 }
def mkSc (r k : Nat) (h : k ≤ 4) : Sc := ⟨(r, k), h⟩
theorem map_mkSc (pre : List Sc) (r k : Nat) (h : k ≤ 4) : (pre ++ [mkSc r k h]).map (·.1) = pre.map (·.1) ++ [(r, k)] := by
  rw [List.map_append]; rfl
theorem grown_of_below_u {a w : World} (h : Below a.heap.size a w) : a.grownBy w none := ⟨h.os, h.tape, h.output, h.size, fun i hi _ => h.block i hi⟩
theorem abides_below {β : Type} {B : Nat} {J : β → World → Prop} (hJ : AbidesFrom B J) {s : β} {A C : World} (h : J s A) (hb : Below A.heap.size A C) : J s C :=
  hJ s A C none h (grown_of_below_u hb) (fun _ e => by cases e)
theorem BS.drop {w : World} {B b off : Nat} {zs : List Nat} (h : BS w B (some ⟨b, off, none⟩) zs) (i o' : Nat) (ho : i < zs.length → o' = off + i) : BS w B (some ⟨b, o', none⟩) (zs.drop i) :=
  ⟨fun z hz => h.1 z (List.mem_of_mem_drop hz), fun hn => by
    have hi : i < zs.length := by
      rcases Nat.lt_or_ge i zs.length with h1 | h1
      · exact h1
      · exact absurd (List.drop_of_length_le h1) hn
    have hx : zs ≠ [] := by rintro rfl; simp at hi
    obtain ⟨b', off', e, hb, hc⟩ := h.2 hx
    obtain ⟨rfl, rfl⟩ : b = b' ∧ off = off' := by simpa using e
    refine ⟨b, o', rfl, hb, fun k hk => ?_⟩
    have hk' : i + k < zs.length := by simp at hk; omega
    rw [ho hi, Nat.add_assoc, List.getElem?_drop]
    exact hc _ hk'⟩

set_option maxRecDepth 100000 in
set_option maxHeartbeats 2000000 in
theorem settled1_in (m : Nat) (hm : 1 ≤ m) (l Bs n₀ b off n c : Nat) (zs : List Nat) (hn : n = zs.length) (hcap : n ≤ c) (h63 : c ≤ 9223372036854775807) (hlen : n ≤ 2000000) (J Jx : List Sc → World → Prop)
    (hY : ∀ pre x W, J pre W → pre.length < n → YieldAt Fence.wide (m - 1) Tryd.prog l #[.int .i32 (x.1.1 : Nat), .int .i64 (x.1.2 : Nat)] W fun e W' =>
      (e = .returned (.bool true) ∧ J (pre ++ [x]) W' ∧ Below n₀ W W') ∨ (e = .returned (.bool false) ∧ Jx (pre ++ [x]) W'))
    (W : World) (h2 : max 0 1 + 1 ≤ n₀) (hn0 : n₀ ≤ W.heap.size) (hT : UT W) (hJa : AbidesFrom W.heap.size J) (hBs : W.cell? ⟨Bs, 0, none⟩ = some (.slice (some ⟨b, off, none⟩) n c))
    (hR : BS W n₀ (some ⟨b, off, none⟩) zs) (h0 : J [] W) :
    CallsIn Fence.wide m Tryd.prog 86 #[.func (.yield l) #[] #[], .pointer (some ⟨Bs, 0, none⟩)] W fun e W' => (∃ v, e = .returned v) ∧
      ((∃ ys : List Sc, ys.map (·.1) = rdL zs ∧ J ys W') ∨ (∃ pre : List Sc, pre.map (·.1) <+: rdL zs ∧ Jx pre W')) := by
  have HN := Lib.hid hn
  clear hn
  have HY := Lib.hid hY
  clear hY
  have HT : Hid (∀ W', Below n₀ W W' → UT W') := Lib.hid fun W' hW' => by
    refine ⟨⟨fun c hc => (hW'.cell (p := ⟨_, c, none⟩) (show 0 < n₀ by omega)).trans (hT.1.1 c hc), fun i hi => ⟨(hW'.cell (p := ⟨_, 2 * i, none⟩) (show 1 < n₀ by omega)).trans (hT.1.2 i hi).1, (hW'.cell (p := ⟨_, 2 * i + 1, none⟩) (show 1 < n₀ by omega)).trans (hT.1.2 i hi).2⟩⟩, Nat.lt_of_lt_of_le hT.2.1 hW'.size, Nat.lt_of_lt_of_le hT.2.2 hW'.size⟩
  have HR := Lib.hid hR
  clear hT hR
  refine callsIn_of_wp Tryd.func86 rfl trivial ?_ rfl
  simp only [Tryd.ntmps86, List.size_toArray, List.length_cons, List.length_nil, Nat.reduceAdd, Nat.reduceSub, Array.replicate_succ, Array.replicate_zero, List.push_toArray, List.append_toArray, List.nil_append, List.cons_append]
  gi_wp2
  gi_loopw [3] (fun v wr => ∃ (k o' : Nat) (pre : List Sc), k ≤ n ∧ pre.length ≤ k ∧ Hid (k < n → o' = off + k) ∧ v = .slice (some ⟨b, o', none⟩) (n - k) (c - k) ∧ Hid (rdL zs = pre.map (·.1) ++ rdL (zs.drop k)) ∧ J pre wr ∧ Hid (Below n₀ W wr))
    (fun v _ => match v with | .slice _ q _ => q | _ => 0)
  case atStart => exact ⟨0, off, [], by omega, by simp, Lib.hid (fun _ => rfl), rfl, Lib.hid rfl, h0, Lib.hid (Below.refl _ _)⟩
  case round =>
    obtain ⟨k, o', pre, hkn, hpk, HO, rfl, HK, hJs, hnx⟩ := hrel
    have hl : n - k = (zs.drop k).length := by rw [List.length_drop, ← HN.out]
    have hBr : BS wr wr.heap.size (some ⟨b, o', none⟩) (zs.drop k) := ((HR.out.below hnx.out).drop k o' (fun h => HO.out (by rw [HN.out]; exact h))).more (Nat.le_trans hn0 hnx.out.size)
    have hf := full_any (some ⟨b, o', none⟩) (zs.drop k) (n - k) (c - k) hl (by omega) wr (HT.out wr hnx.out) hBr
    cases hq : fullB (zs.drop k) with
    | false =>
      have HZ : Hid (pre.map (·.1) = rdL zs) := Lib.hid (by rw [HK.out, rdL_no _ hq, List.append_nil])
      rw [hq] at hf
      clear hq hl hBr HK
      gi_wp2_with (refine ⟨trivial, ?_⟩; gi_at_call 87; refine (callsIn_wide.2 hf).mono ?_; clear hf; rintro e w1 ⟨rfl, hb1⟩; have hJ1 := abides_below hJa hJs hb1)
      go_end0
      exact ⟨⟨_, rfl⟩, .inl ⟨pre, HZ.out, hJ1⟩⟩
    | true =>
      have hpos := fullB_pos hq
      obtain ⟨hm1, hm4, hmn⟩ := firstF_bd (zs.drop k) hpos
      rw [← hl] at hmn hpos
      have HF : Hid (∀ W', Below wr.heap.size wr W' → Calls Tryd.prog 88 #[.slice (some ⟨b, o', none⟩) (n - k) (c - k)] W' fun e w' => e = .returned (.tuple #[.int .i32 (firstF (zs.drop k)).1, .int .i64 (firstF (zs.drop k)).2]) ∧ Below W'.heap.size W' w') := Lib.hid fun W' hW' =>
        first_any b o' (c - k) (zs.drop k) (n - k) hl (by rintro e; rw [e] at hl; simp at hl; omega) (by omega) (by omega) W' (HT.out W' (hnx.out.trans (hW'.mono (Nat.le_trans hn0 hnx.out.size)))) ((hBr.below hW').more hW'.size)
      have HZ : Hid (rdL zs = (pre ++ [mkSc (firstF (zs.drop k)).1 (firstF (zs.drop k)).2 hm4]).map (·.1) ++ rdL (zs.drop (k + (firstF (zs.drop k)).2))) := Lib.hid (by
        rw [HK.out, rdL_yes _ hq, List.drop_drop, map_mkSc, List.append_assoc]; rfl)
      rw [hq] at hf
      clear hq hl hBr HK
      generalize (firstF (zs.drop k)).1 = r at *
      generalize (firstF (zs.drop k)).2 = fm at *
      gi_wp2_with (first | (refine ⟨trivial, ?_⟩; gi_at_call 87; refine (callsIn_wide.2 hf).mono ?_; clear hf; rintro e w1 ⟨rfl, hb1⟩; have hJ1 := abides_below hJa hJs hb1) | (refine ⟨trivial, ?_⟩; gi_at_call 88; refine (callsIn_wide.2 (HF.out _ hb1)).mono ?_; rintro e w2 ⟨rfl, hb2⟩; have hJ2 := abides_below hJa hJ1 hb2; obtain ⟨fn, tmps, assign, body, hy, hR⟩ := HY.out pre (mkSc r fm hm4) w2 hJ2 (by omega); dsimp only [mkSc] at hy))
      have HB2 : Hid (Below n₀ W w2) := Lib.hid (hnx.out.trans ((hb1.trans (hb2.mono hb1.size)).mono (Nat.le_trans hn0 hnx.out.size)))
      clear hJs hJ1 hJ2 hb1 hb2 HF
      refine hR.mono ?_
      rintro e W3 (⟨rfl, hJ4, hk4⟩ | ⟨rfl, hJx4⟩)
      · have HB3 : Hid (Below n₀ W W3) := Lib.hid (HB2.out.trans hk4)
        have hmi : (fm : Int) ≤ (n - k : Nat) := by omega
        have hmc : fm ≤ c - k := by omega
        by_cases hcm : c - k = fm
        · have hO' : Hid (k + fm < n → o' = off + (k + fm)) := Lib.hid fun h => by omega
          gi_wp2
          go_roundw
          case rel => exact ⟨k + fm, o', pre ++ [mkSc r fm hm4], by omega, by simp; omega, hO', by rw [Nat.sub_add_eq, Nat.sub_add_eq, show c - k - fm = 0 by omega], HZ, hJ4, HB3⟩
          case measure => show n - k - fm < n - k; omega
        · have hO' : Hid (k + fm < n → o' + fm = off + (k + fm)) := Lib.hid fun h => by rw [HO.out (by omega), Nat.add_assoc]
          gi_wp2
          go_roundw
          case rel => exact ⟨k + fm, o' + fm, pre ++ [mkSc r fm hm4], by omega, by simp; omega, hO', by rw [Nat.sub_add_eq, Nat.sub_add_eq], HZ, hJ4, HB3⟩
          case measure => show n - k - fm < n - k; omega
      · gi_wp2
        refine bodyPost_ret (results_none rfl _ _ _) rfl ?_
        exact ⟨⟨_, rfl⟩, .inr ⟨_, by rw [HZ.out]; exact List.prefix_append _ _, hJx4⟩⟩

set_option maxRecDepth 100000 in
set_option maxHeartbeats 1000000 in
theorem settled1_nil (m : Nat) (hm : 1 ≤ m) (l Bs c : Nat) (A : Option Addr) (J : List Sc → World → Prop) (W : World) (hBs : W.cell? ⟨Bs, 0, none⟩ = some (.slice A 0 c)) (hJa : AbidesFrom W.heap.size J) (h0 : J [] W) :
    CallsIn Fence.wide m Tryd.prog 86 #[.func (.yield l) #[] #[], .pointer (some ⟨Bs, 0, none⟩)] W fun e W' => (∃ v, e = .returned v) ∧ J [] W' := by
  refine callsIn_of_wp Tryd.func86 rfl trivial ?_ rfl
  simp only [Tryd.ntmps86, List.size_toArray, List.length_cons, List.length_nil, Nat.reduceAdd, Nat.reduceSub, Array.replicate_succ, Array.replicate_zero, List.push_toArray, List.append_toArray, List.nil_append, List.cons_append]
  gi_wp2
  gi_loopw [3] (fun v wr => v = .slice A 0 c ∧ wr = W) (fun _ _ => 0)
  case atStart => exact ⟨rfl, rfl⟩
  case round =>
    obtain ⟨rfl, rfl⟩ := hrel
    have hf := full_nil A c wr
    gi_wp2_with (refine ⟨trivial, ?_⟩; gi_at_call 87; refine (callsIn_wide.2 hf).mono ?_; clear hf; rintro e w1 ⟨rfl, hb1⟩; have hJ1 := abides_below hJa h0 hb1)
    go_end0
    exact ⟨⟨_, rfl⟩, hJ1⟩

set_option maxHeartbeats 1000000 in
theorem settled_in (m : Nat) (A : Option Addr) (n c : Nat) (w : World) :
    CallsIn Fence.wide m Tryd.prog 80 #[.slice A n c] w fun e w' => e = .returned (.func (.func 86) #[] #[.pointer (some ⟨w.heap.size, 0, none⟩)]) ∧ w' = w.alloc (.cells #[.slice A n c] 22) := by
  refine callsIn_of_wp Tryd.func80 rfl trivial ?_ rfl
  simp only [Tryd.ntmps80, List.size_toArray, List.length_cons, List.length_nil, Nat.reduceAdd, Nat.reduceSub, Array.replicate_succ, Array.replicate_zero, List.push_toArray, List.append_toArray, List.nil_append, List.cons_append]
  gi_wp2
  go_ret
  exact ⟨rfl, rfl⟩

theorem settled_stops (m : Nat) (hm : 1 ≤ m) (Bs n₀ : Nat) (A : Option Addr) (zs : List Nat) (c : Nat) (hcap : zs.length ≤ c) (h63 : c ≤ 9223372036854775807) (hlen : zs.length ≤ 2000000) (w : World) (h2 : max 0 1 + 1 ≤ n₀) (hn0 : n₀ ≤ w.heap.size) (hBn : Bs < w.heap.size)
    (hT : UT w) (hR : BS w n₀ A zs) (hBs : w.cell? ⟨Bs, 0, none⟩ = some (.slice A zs.length c)) :
    SeqStopsK Fence.wide m Tryd.prog 86 #[.pointer (some ⟨Bs, 0, none⟩)] (fun x : Sc => #[.int .i32 (x.1.1 : Nat), .int .i64 (x.1.2 : Nat)]) (Below n₀) (fun ys => ys.map (·.1) = rdL zs) (fun pre => pre.map (·.1) <+: rdL zs) zs.length w := by
  intro l J Jx W hW hJ hJx hY h0
  have hBs' := (hW.cell (p := ⟨Bs, 0, none⟩) hBn).trans hBs
  by_cases hx : zs = []
  · subst hx
    refine (settled1_nil m hm l Bs c A J W hBs' hJ h0).mono ?_
    rintro e W' ⟨he, hj⟩
    exact ⟨he, .inl ⟨[], rfl, hj⟩⟩
  · obtain ⟨b, off, rfl, _, _⟩ := hR.2 hx
    exact settled1_in m hm l Bs n₀ b off zs.length c zs rfl hcap h63 hlen J Jx hY W h2 (Nat.le_trans hn0 hW.size) (hT.below hW) hJ hBs' (hR.below (hW.mono hn0)) h0

end Go.Proofs.YtmmkcfjncpcabaaDoor
