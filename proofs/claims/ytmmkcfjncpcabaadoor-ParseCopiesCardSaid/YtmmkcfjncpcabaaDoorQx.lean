/- New, State, Held, Step; a parser that isn't there. -/
import Derived.Test.YtmmkcfjncpcabaaDoorMz
import Derived.Test.YtmmkcfjncpcabaaDoorSw
import Derived.Deep.RegionHeld3
import Derived.Deep.DeepCutAuto
import Derived.Lib.SlBytesConst
import Derived.Maps.AppendAt
import Derived.Laws.AppendOwnNone
namespace Go.Proofs.YtmmkcfjncpcabaaDoor
open Go.RowKit

def newP (m : Nat) : PM := ⟨0, [], [], false, 0, [], false, 0, m, []⟩
def newA (m : Nat) : PV := ⟨.int .u8 0, .slice none 0 0, .slice none 0 0, .bool false, .int .u8 0, .slice none 0 0, .bool false, .int .i64 0, .int .i64 m, .int .u8 0, .int .u8 0, .int .u8 0, .int .u8 0, .int .i64 0, .slice none 0 0⟩
theorem GQ.new {m : Nat} (h : m ≤ 65536) : GQ (newP m) := ⟨⟨rfl, Nat.zero_le _, h⟩, .inl rfl⟩
theorem MI.new {w : World} {D m : Nat} (h : w.heap[D]? = some (.cells (newA m).arr 58 (0, 0))) : MI w D (newP m) [] (newA m) := by
  have hb : PB w D (newA m) := h
  refine ⟨hb, rfl, World.ownsRow_nil _ _ _ _, World.ownsRow_nil _ _ _ _, rfl, rfl, World.ownsRow_nil _ _ _ _, rfl, rfl, rfl, ?_, ⟨[], World.ownsRow_nil _ _ _ _, rfl⟩, fun g e => (by cases e), fun g e => (by cases e)⟩
  refine ⟨lt_of_block hb, Nat.zero_le _, fun p hp => (by cases hp), (hb.cell 13).trans rfl, fun k hk => (by cases hk), fun k hk => ⟨0, ?_⟩, fun k _ => hb.free _⟩
  rw [hb.cell]
  match k, hk with
  | 0, _ => rfl
  | 1, _ => rfl
  | 2, _ => rfl
  | 3, _ => rfl
set_option maxRecDepth 100000 in
set_option maxHeartbeats 2000000 in
theorem new_bad (m : Int) (hm : m < 1 ∨ 65536 < m) (w : World) : Calls Tryd.prog 19 #[.int .i64 m] w fun e w' => e = .returned (.tuple #[.pointer none, .int .i64 1]) ∧ Below w.heap.size w w' := by
  rcases hm with hm | hm
  · have e1 : decide (m < 1) = true := decide_eq_true hm
    go_enter Tryd.func19, Tryd.ntmps19
    go_wp2
    go_ret2
    exact ⟨rfl, Below.refl _ _⟩
  · have e1 : decide (m < 1) = false := decide_eq_false (by omega)
    have e2 : decide (m > 65536) = true := decide_eq_true (by omega)
    have e3 : 65536 < m := by omega
    go_enter Tryd.func19, Tryd.ntmps19
    go_wp2
    go_ret2
    exact ⟨rfl, Below.refl _ _⟩
set_option maxRecDepth 100000 in
set_option maxHeartbeats 2000000 in
theorem new_any (m : Nat) (h1 : 1 ≤ m) (h2 : m ≤ 65536) (w : World) : Calls Tryd.prog 19 #[.int .i64 m] w fun e w' => e = .returned (.tuple #[.pointer (some ⟨w.heap.size, 0, none⟩), .int .i64 0]) ∧ MI w' w.heap.size (newP m) [] (newA m) ∧ Below w.heap.size w w' := by
  have e1 : decide ((m : Int) < 1) = false := decide_eq_false (by omega)
  have e2 : decide ((m : Int) > 65536) = false := decide_eq_false (by omega)
  have e3 : ¬ 65536 < (m : Int) := by omega
  go_enter Tryd.func19, Tryd.ntmps19
  go_wp2
  go_ret2
  exact ⟨rfl, MI.new (heap_alloc_new w _), (Below.refl _ _).alloc (Nat.le_refl _) _⟩

theorem seg_end {P : Program} {ops : Array Oper} {md : Region.Mode} {w : World} {Q : Exit → Act → World → Prop} {a : Act} {listed : Array Bool} (h0 : Region.ready md ops listed = []) (h : Q .normal a w) : wpAny P md ops Q 0 listed a w := ⟨h0, h⟩
set_option maxRecDepth 100000 in
theorem state_mi {w : World} {D : Nat} {s : PM} {es : List PE} {a : PV} (h : MI w D s es a) : Calls Tryd.prog 15 #[.pointer (some ⟨D, 0, none⟩)] w fun e w' => e = .returned (.int .i64 s.state) ∧ Below w.heap.size w w' := by
  have c7 : w.cell? ⟨D, 7, none⟩ = some a.state := h.blk.cell 7
  rw [h.state] at c7
  generalize s.state = st at *
  clear h
  go_enter Tryd.func15, Tryd.ntmps15
  go_wp2
  go_ret
  exact ⟨rfl, Below.refl _ _⟩
def heldP (s : PM) : Nat := s.ps.length + s.head.length + s.inter.length + s.pay.length
set_option maxRecDepth 100000 in
set_option maxHeartbeats 2000000 in
theorem held_mi {w : World} {D : Nat} {s : PM} {es : List PE} {a : PV} (h : MI w D s es a) (hP : GP s) (hi : s.inter.length ≤ 2) (hp : s.pay.length ≤ 65536) : Calls Tryd.prog 16 #[.pointer (some ⟨D, 0, none⟩)] w fun e w' => e = .returned (.int .i64 (heldP s : Nat)) ∧ Below w.heap.size w w' := by
  have HL := Lib.hid ((left_any D s.ps.length w.drew h.dec.left).mono fun _ _ ⟨h1, h2⟩ => And.intro h1 h2.symm)
  have c1 : w.cell? ⟨D, 1, none⟩ = some a.head := h.blk.cell 1
  have c2 : w.cell? ⟨D, 2, none⟩ = some a.inter := h.blk.cell 2
  have c5 : w.cell? ⟨D, 5, none⟩ = some a.pay := h.blk.cell 5
  obtain ⟨A1, x1, e1, _⟩ := own_form h.head
  obtain ⟨A2, x2, e2, _⟩ := own_form h.inter
  obtain ⟨A5, x5, e5, _⟩ := own_form h.pay
  rw [e1] at c1
  rw [e2] at c2
  rw [e5] at c5
  have h1 := hP.hlen
  have h4 := h.dec.len
  unfold heldP
  generalize s.ps.length = n0 at *
  generalize s.head.length = n1 at *
  generalize s.inter.length = n2 at *
  generalize s.pay.length = n5 at *
  have hlt := lt_of_block h.blk
  clear h e1 e2 e5 hP
  go_enter Tryd.func16, Tryd.ntmps16
  go_wp2_with fail
  refine seg_start (by kernel_rfl) ?_
  refine seg_quiet 0 25 1 rfl (by kernel_rfl) (by kernel_rfl) (by kernel_rfl) (by kernel_rfl) (by kernel_rfl) (by kernel_rfl) ?_
  simp only [List.take_succ_cons, List.take_zero, List.drop_zero]
  ((with_reducible refine wpStill_step (fun K hK => ?_)); go_simp; (with_reducible refine hK _ ?_); clear hK K)
  ((with_reducible refine wpStill_step (fun K hK => ?_)); go_simp; (with_reducible refine hK _ ?_); clear hK K)
  ((with_reducible refine wpStill_step (fun K hK => ?_)); go_simp; (with_reducible refine hK _ ?_); clear hK K)
  still_call HL.out
  ((with_reducible refine wpStill_step (fun K hK => ?_)); go_simp; (with_reducible refine hK _ ?_); clear hK K)
  ((with_reducible refine wpStill_step (fun K hK => ?_)); go_simp; (with_reducible refine hK _ ?_); clear hK K)
  ((with_reducible refine wpStill_step (fun K hK => ?_)); go_simp; (with_reducible refine hK _ ?_); clear hK K)
  ((with_reducible refine wpStill_step (fun K hK => ?_)); go_simp; (with_reducible refine hK _ ?_); clear hK K)
  ((with_reducible refine wpStill_step (fun K hK => ?_)); go_simp; (with_reducible refine hK _ ?_); clear hK K)
  ((with_reducible refine wpStill_step (fun K hK => ?_)); go_simp; (with_reducible refine hK _ ?_); clear hK K)
  ((with_reducible refine wpStill_step (fun K hK => ?_)); go_simp; (with_reducible refine hK _ ?_); clear hK K)
  ((with_reducible refine wpStill_step (fun K hK => ?_)); go_simp; (with_reducible refine hK _ ?_); clear hK K)
  ((with_reducible refine wpStill_step (fun K hK => ?_)); go_simp; (with_reducible refine hK _ ?_); clear hK K)
  ((with_reducible refine wpStill_step (fun K hK => ?_)); go_simp; (with_reducible refine hK _ ?_); clear hK K)
  ((with_reducible refine wpStill_step (fun K hK => ?_)); go_simp; (with_reducible refine hK _ ?_); clear hK K)
  ((with_reducible refine wpStill_step (fun K hK => ?_)); go_simp; (with_reducible refine hK _ ?_); clear hK K)
  ((with_reducible refine wpStill_step (fun K hK => ?_)); go_simp; (with_reducible refine hK _ ?_); clear hK K)
  ((with_reducible refine wpStill_step (fun K hK => ?_)); go_simp; (with_reducible refine hK _ ?_); clear hK K)
  ((with_reducible refine wpStill_step (fun K hK => ?_)); go_simp; (with_reducible refine hK _ ?_); clear hK K)
  ((with_reducible refine wpStill_step (fun K hK => ?_)); go_simp; (with_reducible refine hK _ ?_); clear hK K)
  ((with_reducible refine wpStill_step (fun K hK => ?_)); go_simp; (with_reducible refine hK _ ?_); clear hK K)
  ((with_reducible refine wpStill_step (fun K hK => ?_)); go_simp; (with_reducible refine hK _ ?_); clear hK K)
  ((with_reducible refine wpStill_step (fun K hK => ?_)); go_simp; (with_reducible refine hK _ ?_); clear hK K)
  ((with_reducible refine wpStill_step (fun K hK => ?_)); go_simp; (with_reducible refine hK _ ?_); clear hK K)
  ((with_reducible refine wpStill_step (fun K hK => ?_)); go_simp; (with_reducible refine hK _ ?_); clear hK K)
  with_reducible refine wpStill_nil ?_
  refine seg_one 25 0 rfl (by kernel_rfl) (fun K hK => ?_)
  go_simp
  (with_reducible refine hK.out _ _ ?_)
  clear hK K
  refine seg_end (by kernel_rfl) ?_
  have w1 : IntKind.i64.wrap ((n0 : Int) + n1) = n0 + n1 := IntWalk.i64_in _ (by omega)
  have w2 : IntKind.i64.wrap ((n0 : Int) + n1 + n2) = n0 + n1 + n2 := IntWalk.i64_in _ (by omega)
  have w3 : IntKind.i64.wrap ((n0 : Int) + n1 + n2 + n5) = n0 + n1 + n2 + n5 := IntWalk.i64_in _ (by omega)
  rw [w1, w2, w3]
  go_wp2
  go_ret
  exact ⟨by simp only [Int.natCast_add]; rfl, (Below.refl _ _).drew⟩
set_option maxRecDepth 100000 in
set_option maxHeartbeats 2000000 in
theorem step1_mi {w : World} {D : Nat} {s : PM} {a : PV} (h : MI w D s [] a) (hG : GT w D) (hP : GQ s) (x : UInt8) : Calls Tryd.prog 17 #[.pointer (some ⟨D, 0, none⟩), .int .u8 x.toNat] w (fun e w' => ∃ v, e = .returned v ∧ AP D (takeP s x).1 (takeP s x).2 a w v w') := by
  have HA : Hid (∀ t, Calls Tryd.prog 14 #[.pointer (some ⟨D, 0, none⟩), .slice (some ⟨w.heap.size, 0, none⟩) 1 1] (w.alloc (.cells #[.int .u8 x.toNat] t)) (fun e w' => ∃ v, e = .returned v ∧ AP D (takeP s x).1 (takeP s x).2 a w v w')) := Lib.hid fun t => by
    obtain ⟨hm, hf⟩ := h.past ((Below.refl _ _).alloc (Nat.le_refl _) (.cells #[.int .u8 x.toNat] t))
    refine (all_mi hm (hG.fr h hf) hP (some ⟨w.heap.size, 0, none⟩) [x] 1 1 rfl (fun _ => ⟨w.heap.size, 0, rfl, by simp, fun hmu => by have := (h.low hmu).2; omega, fun k hk => ?_⟩) (by omega)).mono fun _ _ ⟨v, h1, cs, a', A, c, h2, h3, h4, h5, h6, h7, h8⟩ => ⟨v, h1, ?_⟩
    · have hk0 : k = 0 := by simpa using hk
      subst hk0
      exact (cell_of_row _ _ 0 _ _ _ (heap_alloc_new w (.cells #[.int .u8 x.toNat] t))).trans rfl
    · have e1 : takesP s [x] = takeP s x := by simp [takesP]
      rw [e1] at h2 h3 h5 h6
      refine ⟨cs, a', A, c, h2, h3, hf.trans h4, h5, h6, h7, fun g hg => (h8 g hg).imp id fun hs => ?_⟩
      have : (w.alloc (.cells #[.int .u8 x.toNat] t)).heap.size = w.heap.size + 1 := by simp
      omega
  clear h hG hP
  generalize (x.toNat : Int) = z at *
  go_enter Tryd.func17, Tryd.ntmps17
  go_wp2_with (go_at_call 14; (with_reducible refine (HA.out _).mono ?_); rintro e w2 ⟨v, rfl, hp⟩; have HP := Lib.hid hp; clear hp)
  go_ret
  exact ⟨_, rfl, HP.out⟩

set_option maxRecDepth 100000 in
theorem state_none (w : World) : Calls Tryd.prog 15 #[.pointer none] w fun e w' => e = .returned (.int .i64 0) ∧ Below w.heap.size w w' := by
  go_enter Tryd.func15, Tryd.ntmps15
  go_wp2
  go_ret
  exact ⟨rfl, Below.refl _ _⟩
set_option maxRecDepth 100000 in
theorem held_none (w : World) : Calls Tryd.prog 16 #[.pointer none] w fun e w' => e = .returned (.int .i64 0) ∧ Below w.heap.size w w' := by
  go_enter Tryd.func16, Tryd.ntmps16
  go_wp2
  go_ret
  exact ⟨rfl, Below.refl _ _⟩
set_option maxRecDepth 100000 in
theorem all_none (v : Value) (w : World) : Calls Tryd.prog 14 #[.pointer none, v] w fun e w' => e = .returned (.slice none 0 0) ∧ Below w.heap.size w w' := by
  go_enter Tryd.func14, Tryd.ntmps14
  go_wp2
  go_ret
  exact ⟨rfl, Below.refl _ _⟩
set_option maxRecDepth 100000 in
theorem copy_none (w : World) : Calls Tryd.prog 18 #[.pointer none] w fun e w' => e = .returned (.pointer none) ∧ Below w.heap.size w w' := by
  go_enter Tryd.func18, Tryd.ntmps18
  go_wp2
  go_ret
  exact ⟨rfl, Below.refl _ _⟩
set_option maxRecDepth 100000 in
theorem step_none (z : Int) (w : World) : Calls Tryd.prog 17 #[.pointer none, .int .u8 z] w fun e w' => e = .returned (.slice none 0 0) ∧ Below w.heap.size w w' := by
  have HA : Hid (∀ v w1, Calls Tryd.prog 14 #[.pointer none, v] w1 fun e w' => e = .returned (.slice none 0 0) ∧ Below w1.heap.size w1 w') := Lib.hid all_none
  have HB : Hid (∀ o w2, Below (w.alloc o).heap.size (w.alloc o) w2 → Below w.heap.size w w2) := Lib.hid fun o w2 h => ((Below.refl _ _).alloc (Nat.le_refl _) o).trans (h.mono (by simp))
  go_enter Tryd.func17, Tryd.ntmps17
  go_wp2_with (go_at_call 14; (with_reducible refine (HA.out _ _).mono ?_); rintro e w2 ⟨rfl, hp⟩; have HP := Lib.hid (HB.out _ _ hp); clear hp)
  go_ret
  exact ⟨rfl, HP.out⟩

end Go.Proofs.YtmmkcfjncpcabaaDoor

namespace Go.Proofs.YtmmkcfjncpcabaaDoor
open Go.RowKit

set_option maxRecDepth 100000 in
set_option maxHeartbeats 2000000 in
theorem same3_any (A A' : Option Addr) (xs ys : List (List Int)) (n n' c c' : Nat) (hn : n = xs.length) (hn' : n' = ys.length) (h63 : n ≤ 9223372036854775807) (hrow : ∀ i : Nat, (xs[i]?.getD []).length ≤ 9223372036854775807) (w : World) (hR : RG w w.heap.size A xs) (hR' : RG w w.heap.size A' ys) :
    Calls Tryd.prog 21 #[.slice A n c, .slice A' n' c'] w fun e w' => e = .returned (.bool (sameL xs ys)) ∧ Below w.heap.size w w' := by
  by_cases hnn : n = n'
  · have HN := Lib.hid hn
    have HN' := Lib.hid (hnn.trans hn')
    have HR := Lib.hid hR
    have HR' := Lib.hid hR'
    have HROW := Lib.hid hrow
    subst hnn
    clear hn hn' hR hR' hrow
    go_enter Tryd.func21, Tryd.ntmps21
    go_wp2
    go_loopw [5] (fun i wr => ∃ k : Nat, k ≤ n ∧ i = .int .i64 k ∧ Hid (xs.take k = ys.take k) ∧ Hid (Below w.heap.size w wr)) (fun i _ => n - (intOf i).toNat)
    case atStart => exact ⟨0, Nat.zero_le _, rfl, Lib.hid rfl, Lib.hid (Below.refl _ _)⟩
    case round =>
      obtain ⟨k, hk, rfl, HK, hB⟩ := hrel
      by_cases hlt : k < n
      · obtain ⟨b, off, e, hblt, hc⟩ := (HR.out.below hB.out) (fun e => by have := HN.out; rw [e] at this; simp at this; omega)
        obtain ⟨b', off', e', hblt', hc'⟩ := (HR'.out.below hB.out) (fun e => by have := HN'.out; rw [e] at this; simp at this; omega)
        subst e; subst e'
        obtain ⟨Ai, ci, hck, hri, _⟩ := hc k (HN.out ▸ hlt)
        obtain ⟨Ai', ci', hck', hri', _⟩ := hc' k (HN'.out ▸ hlt)
        have hli : (k : Int) < n := by omega
        have hsz := hB.out.size
        have HNE : Hid (xs[k]?.getD [] ≠ ys[k]?.getD [] → sameL xs ys = false) := Lib.hid (sameL_some k)
        have HEQ : Hid (xs[k]?.getD [] = ys[k]?.getD [] → xs.take (k + 1) = ys.take (k + 1)) := Lib.hid (take_sameL k HK.out (HN.out ▸ hlt) (HN'.out ▸ hlt))
        have hxl := HROW.out k
        clear hc hc' HR HR' HN HN' HK HROW
        generalize xs[k]?.getD [] = x at *
        generalize ys[k]?.getD [] = y at *
        have HI : Hid (∀ W, Below wr.heap.size wr W → Calls Tryd.prog 30 #[.slice Ai x.length ci, .slice Ai' y.length ci'] W fun e w' => e = .returned (.bool (intsB x y)) ∧ Below W.heap.size W w') := Lib.hid fun W hW => ints_any Ai Ai' x y _ _ ci ci' rfl rfl hxl W ((hri.more hsz).past hW) ((hri'.more hsz).past hW)
        have HXY : Hid (intsB x y = decide (x = y)) := Lib.hid rfl
        generalize x.length = nx at *
        generalize y.length = ny at *
        have hS : (wr.cell? ⟨b, off + k, none⟩ = some (.slice Ai nx ci) ∧ wr.cell? ⟨b', off' + k, none⟩ = some (.slice Ai' ny ci')) ∧ b < wr.heap.size ∧ b' < wr.heap.size ∧ Below wr.heap.size wr wr := ⟨⟨hck, hck'⟩, Nat.lt_of_lt_of_le hblt hsz, Nat.lt_of_lt_of_le hblt' hsz, Below.refl _ _⟩
        have hSd := two_step (a := ⟨b, off + k, none⟩) (a' := ⟨b', off' + k, none⟩) hS ((Below.refl wr.heap.size wr).drew)
        have HB := Lib.hid hB.out
        have HSZ := Lib.hid hsz
        clear hri hri' hck hck' hblt hblt' hB hsz hxl
        generalize hbb : intsB x y = r at *
        have HBB := Lib.hid hbb
        clear hbb
        go_wp2
        go_region_held3 (fun W => (W.cell? ⟨b, off + k, none⟩ = some (.slice Ai nx ci) ∧ W.cell? ⟨b', off' + k, none⟩ = some (.slice Ai' ny ci')) ∧ b < W.heap.size ∧ b' < W.heap.size ∧ Below wr.heap.size wr W)
          (first | exact hSd | exact two_step (a := ⟨b, off + k, none⟩) (a' := ⟨b', off' + k, none⟩) hSd hb6 | exact two_step (a := ⟨b, off + k, none⟩) (a' := ⟨b', off' + k, none⟩) (by assumption) hb6)
          (first
            | (go_at_call 30; (with_reducible refine (HI.out _ ?_).mono ?_); (first | exact two_below (a := ⟨b, off + k, none⟩) (a' := ⟨b', off' + k, none⟩) (by assumption) | exact two_below (a := ⟨b, off + k, none⟩) (a' := ⟨b', off' + k, none⟩) hSd); rintro e6 w6 ⟨rfl, hb6⟩))
        have HBN := Lib.hid (bel0 HB.out (two_below (a := ⟨b, off + k, none⟩) (a' := ⟨b', off' + k, none⟩) (by assumption)))
        cases r with
        | true =>
          have HZ := Lib.hid (HEQ.out (of_decide_eq_true HXY.out.symm))
          clear HEQ HNE HXY HBB
          go_wp2
          go_roundw
          case rel => exact ⟨k + 1, hlt, by go_num, HZ, HBN⟩
          case measure => simp [intOf]; omega
        | false =>
          have HZ := Lib.hid (HNE.out (of_decide_eq_false HXY.out.symm))
          clear HEQ HNE HXY HBB
          go_wp2
          go_ret
          exact ⟨by rw [HZ.out]; rfl, HBN.out⟩
      · have : k = n := by omega
        subst this
        have HZ := Lib.hid (sameL_all k HK.out (by rw [← HN.out]; exact Nat.le_refl _) (by rw [← HN'.out]; exact Nat.le_refl _))
        clear HK
        go_wp2
        go_ret
        exact ⟨by rw [HZ.out]; rfl, hB.out⟩
  · have HZ := Lib.hid (sameL_none (xs := xs) (ys := ys) (by rw [← hn, ← hn']; exact hnn))
    have hnb : ((n : Int) == n') = false := by simp; omega
    have hnc : ((n : Int) != n') = true := by simp; omega
    clear hn hn' hR hR' hnn hrow
    go_enter Tryd.func21, Tryd.ntmps21
    go_wp2
    go_ret
    exact ⟨by rw [HZ.out]; rfl, Below.refl _ _⟩

end Go.Proofs.YtmmkcfjncpcabaaDoor

namespace Go.Proofs.YtmmkcfjncpcabaaDoor
open Go.RowKit

deriving instance DecidableEq for PE
def pe0 : PE := ⟨0, 0, 0, 0, [], ⟨#[]⟩, ⟨#[]⟩, false⟩
/-- The slice value '.slice A es.length c' reads as the events es. -/
def EvS (w : World) (A : Option Addr) (es : List PE) : Prop :=
  es ≠ [] → ∃ b off, A = some ⟨b, off, none⟩ ∧ b < w.heap.size ∧ ∀ i, i < es.length → ∃ Ai ci, RGt w Ai (es[i]?.getD pe0).nums ∧
    w.cell? ⟨b, off + i * 8, none⟩ = some (.int .i64 (es[i]?.getD pe0).kind) ∧ w.cell? ⟨b, off + i * 8 + 1, none⟩ = some (.int .i32 (es[i]?.getD pe0).r) ∧ w.cell? ⟨b, off + i * 8 + 2, none⟩ = some (.int .u8 (es[i]?.getD pe0).byte) ∧ w.cell? ⟨b, off + i * 8 + 3, none⟩ = some (.int .u8 (es[i]?.getD pe0).pre) ∧ w.cell? ⟨b, off + i * 8 + 4, none⟩ = some (.slice Ai (es[i]?.getD pe0).nums.length ci) ∧ w.cell? ⟨b, off + i * 8 + 5, none⟩ = some (.string (es[i]?.getD pe0).inter) ∧ w.cell? ⟨b, off + i * 8 + 6, none⟩ = some (.string (es[i]?.getD pe0).text) ∧ w.cell? ⟨b, off + i * 8 + 7, none⟩ = some (.bool (es[i]?.getD pe0).cut)
theorem EvS.past {w w' : World} {A : Option Addr} {es : List PE} (h : EvS w A es) (hb : Below w.heap.size w w') : EvS w' A es := fun hne => by
  obtain ⟨b, off, e, hlt, hc⟩ := h hne
  refine ⟨b, off, e, Nat.lt_of_lt_of_le hlt hb.size, fun i hi => ?_⟩
  obtain ⟨Ai, ci, h0, h1, h2, h3, h4, h5, h6, h7, h8⟩ := hc i hi
  have cc : ∀ k, w'.cell? ⟨b, k, none⟩ = w.cell? ⟨b, k, none⟩ := fun k => hb.cell (p := ⟨b, k, none⟩) hlt
  exact ⟨Ai, ci, h0.kept (NT.below hb), (cc _).trans h1, (cc _).trans h2, (cc _).trans h3, (cc _).trans h4, (cc _).trans h5, (cc _).trans h6, (cc _).trans h7, (cc _).trans h8⟩
theorem RIt.to_RI {w : World} {A : Option Addr} {xs : List Int} (h : RIt w A xs) : RI w w.heap.size A xs := fun hn => by
  obtain ⟨b, off, cur, e, hh, hc⟩ := h hn
  exact ⟨b, off, e, lt_of_block hh, hc⟩
theorem RGt.to_RG {w : World} {A : Option Addr} {L : List (List Int)} (h : RGt w A L) : RG w w.heap.size A L := fun hn => by
  obtain ⟨b, off, cur, e, hh, hc⟩ := h hn
  refine ⟨b, off, e, lt_of_block hh, fun i hi => ?_⟩
  obtain ⟨Ai, ci, h1, h2, h3⟩ := hc i hi
  exact ⟨Ai, ci, h1, h2.to_RI, h3⟩
theorem toList_ne {x y : ByteArray} (h : x ≠ y) : (x.toList == y.toList) = false ∧ (x.toList != y.toList) = true := by
  have hne : x.toList ≠ y.toList := fun e => h (by rw [Lib.toList_data, Lib.toList_data] at e; exact ByteArray.ext (Array.ext' e))
  exact ⟨beq_false_of_ne hne, bne_iff_ne.2 hne⟩
theorem take_snocE (xs : List PE) (k : Nat) (h : k < xs.length) : xs.take (k + 1) = xs.take k ++ [xs[k]?.getD pe0] := by
  rw [List.take_succ_eq_append_getElem h, List.getElem?_eq_getElem h]; rfl
/-- Eight cells of a box. -/
def E8 (W : World) (g : Nat) (v0 v1 v2 v3 v4 v5 v6 v7 : Value) : Prop := W.cell? ⟨g, 0, none⟩ = some v0 ∧ W.cell? ⟨g, 1, none⟩ = some v1 ∧ W.cell? ⟨g, 2, none⟩ = some v2 ∧ W.cell? ⟨g, 3, none⟩ = some v3 ∧ W.cell? ⟨g, 4, none⟩ = some v4 ∧ W.cell? ⟨g, 5, none⟩ = some v5 ∧ W.cell? ⟨g, 6, none⟩ = some v6 ∧ W.cell? ⟨g, 7, none⟩ = some v7
theorem e8_new (W : World) (v0 v1 v2 v3 v4 v5 v6 v7 : Value) (t : TypeId) : E8 (W.alloc (.cells #[v0, v1, v2, v3, v4, v5, v6, v7] t)) W.heap.size v0 v1 v2 v3 v4 v5 v6 v7 := by
  have h := heap_alloc_new W (.cells #[v0, v1, v2, v3, v4, v5, v6, v7] t)
  refine ⟨?_, ?_, ?_, ?_, ?_, ?_, ?_, ?_⟩
  all_goals exact (cell_of_row _ _ _ _ _ _ h).trans rfl
theorem E8.past {W W' : World} {g B : Nat} {v0 v1 v2 v3 v4 v5 v6 v7 : Value} (h : E8 W g v0 v1 v2 v3 v4 v5 v6 v7) (hg : g < B) (hb : Below B W W') : E8 W' g v0 v1 v2 v3 v4 v5 v6 v7 := by
  obtain ⟨h0, h1, h2, h3, h4, h5, h6, h7⟩ := h
  exact ⟨(hb.cell (p := ⟨g, 0, none⟩) hg).trans h0, (hb.cell (p := ⟨g, 1, none⟩) hg).trans h1, (hb.cell (p := ⟨g, 2, none⟩) hg).trans h2, (hb.cell (p := ⟨g, 3, none⟩) hg).trans h3, (hb.cell (p := ⟨g, 4, none⟩) hg).trans h4, (hb.cell (p := ⟨g, 5, none⟩) hg).trans h5, (hb.cell (p := ⟨g, 6, none⟩) hg).trans h6, (hb.cell (p := ⟨g, 7, none⟩) hg).trans h7⟩
theorem e8_one (W : World) (v0 v1 v2 v3 v4 v5 v6 v7 : Value) (t : TypeId) (o : Obj) : E8 ((W.alloc (.cells #[v0, v1, v2, v3, v4, v5, v6, v7] t)).alloc o).drew W.heap.size v0 v1 v2 v3 v4 v5 v6 v7 :=
  (e8_new W v0 v1 v2 v3 v4 v5 v6 v7 t).past (B := W.heap.size + 1) (by omega) (((Below.refl _ _).alloc (by simp) _).drew)
theorem e8_two (W : World) (v0 v1 v2 v3 v4 v5 v6 v7 : Value) (t : TypeId) (o : Obj) : E8 ((W.alloc o).alloc (.cells #[v0, v1, v2, v3, v4, v5, v6, v7] t)).drew (W.heap.size + 1) v0 v1 v2 v3 v4 v5 v6 v7 := by
  have h := e8_new (W.alloc o) v0 v1 v2 v3 v4 v5 v6 v7 t
  rw [show (W.alloc o).heap.size = W.heap.size + 1 by simp] at h
  exact h
set_option maxRecDepth 100000 in
set_option maxHeartbeats 4000000 in
theorem same4_any (A A' : Option Addr) (es es' : List PE) (n n' c c' : Nat) (hn : n = es.length) (hn' : n' = es'.length) (h63 : n ≤ 1000000) (w : World) (hR : EvS w A es) (hR' : EvS w A' es') (hb : ∀ i : Nat, ((es[i]?.getD pe0).nums).length ≤ 1000 ∧ ∀ j : Nat, (((es[i]?.getD pe0).nums)[j]?.getD []).length ≤ 1000) :
    Calls Tryd.prog 13 #[.slice A n c, .slice A' n' c'] w fun e w' => e = .returned (.bool (decide (es = es'))) ∧ Below w.heap.size w w' := by
  by_cases hnn : n = n'
  · have HN := Lib.hid hn
    have HN' := Lib.hid (hnn.trans hn')
    have HR := Lib.hid hR
    have HR' := Lib.hid hR'
    have HB := Lib.hid hb
    subst hnn
    clear hn hn' hR hR' hb
    go_enter Tryd.func13, Tryd.ntmps13
    go_wp2
    go_loopw [5] (fun i wr => ∃ k : Nat, k ≤ n ∧ i = .int .i64 k ∧ Hid (es.take k = es'.take k) ∧ Hid (Below w.heap.size w wr)) (fun i _ => n - (intOf i).toNat)
    case atStart => exact ⟨0, Nat.zero_le _, rfl, Lib.hid rfl, Lib.hid (Below.refl _ _)⟩
    case round =>
      obtain ⟨k, hk, rfl, HK, hB⟩ := hrel
      by_cases hlt : k < n
      · obtain ⟨b, off, e, hblt, hc⟩ := HR.out (fun e => by have := HN.out; rw [e] at this; simp at this; omega)
        obtain ⟨b', off', e', hblt', hc'⟩ := HR'.out (fun e => by have := HN'.out; rw [e] at this; simp at this; omega)
        subst e; subst e'
        obtain ⟨A1, c1, g1, x0, x1, x2, x3, x4, x5, x6, x7⟩ := hc k (HN.out ▸ hlt)
        obtain ⟨A2, c2, g2, y0, y1, y2, y3, y4, y5, y6, y7⟩ := hc' k (HN'.out ▸ hlt)
        have HG1 := Lib.hid (g1.kept (NT.below hB.out))
        have HG2 := Lib.hid (g2.kept (NT.below hB.out))
        have cc : ∀ o, wr.cell? ⟨b, o, none⟩ = w.cell? ⟨b, o, none⟩ := fun o => hB.out.cell (p := ⟨b, o, none⟩) hblt
        have cc' : ∀ o, wr.cell? ⟨b', o, none⟩ = w.cell? ⟨b', o, none⟩ := fun o => hB.out.cell (p := ⟨b', o, none⟩) hblt'
        rw [← cc] at x0 x1 x2 x3 x4 x5 x6 x7
        rw [← cc'] at y0 y1 y2 y3 y4 y5 y6 y7
        have hz := hB.out.size
        have hbw : b < wr.heap.size := by omega
        have hbw' : b' < wr.heap.size := by omega
        have hli : (k : Int) < n := by omega
        have HNE : Hid (es[k]?.getD pe0 ≠ es'[k]?.getD pe0 → decide (es = es') = false) := Lib.hid fun h => decide_eq_false fun e => h (by rw [e])
        have HEQ : Hid (es[k]?.getD pe0 = es'[k]?.getD pe0 → es.take (k + 1) = es'.take (k + 1)) := Lib.hid fun h => by rw [take_snocE es k (HN.out ▸ hlt), take_snocE es' k (HN'.out ▸ hlt), HK.out, h]
        have HBK := Lib.hid (HB.out k)
        clear hc hc' HR HR' HN HN' hblt hblt' HK g1 g2 cc cc' hz HB
        generalize es[k]?.getD pe0 = x at *
        generalize es'[k]?.getD pe0 = y at *
        obtain ⟨xk, xr, xb, xp, xn, xi, xt, xc⟩ := x
        obtain ⟨yk, yr, yb, yp, yn, yi, yt, yc⟩ := y
        simp only at x0 x1 x2 x3 x4 x5 x6 x7 y0 y1 y2 y3 y4 y5 y6 y7 HG1 HG2 HBK
        go_upto_region 6 with fail
        go_cut [6, 7] (fun s6 s7 wx => ∃ g h, s6 = .pointer (some ⟨g, 0, none⟩) ∧ s7 = .pointer (some ⟨h, 0, none⟩) ∧ E8 wx g (.int .i64 xk) (.int .i32 xr) (.int .u8 xb) (.int .u8 xp) (.slice A1 xn.length c1) (.string xi) (.string xt) (.bool xc) ∧ E8 wx h (.int .i64 yk) (.int .i32 yr) (.int .u8 yb) (.int .u8 yp) (.slice A2 yn.length c2) (.string yi) (.string yt) (.bool yc) ∧ Below wr.heap.size wr wx)
        case first =>
          go_region_law fail
          all_goals
            go_wp2_with fail
            go_meet
            refine ⟨_, _, rfl, rfl, ?_, ?_, ?_⟩
            · first | exact e8_one _ _ _ _ _ _ _ _ _ _ _ | exact e8_two _ _ _ _ _ _ _ _ _ _ _
            · first | exact e8_one _ _ _ _ _ _ _ _ _ _ _ | exact e8_two _ _ _ _ _ _ _ _ _ _ _
            · exact (((Below.refl _ _).alloc (Nat.le_refl _) _).alloc (by simp) _).drew
        case rest =>
          obtain ⟨g, h, rfl, rfl, ⟨p0, p1, p2, p3, p4, p5, p6, p7⟩, ⟨q0, q1, q2, q3, q4, q5, q6, q7⟩, hW⟩ := hcut
          have HW := Lib.hid ((hB.out.trans (hW.mono hB.out.size)))
          have HS : Hid (Calls Tryd.prog 21 #[.slice A1 xn.length c1, .slice A2 yn.length c2] wc (fun e w' => e = .returned (.bool (sameL xn yn)) ∧ Below w.heap.size w w')) := Lib.hid ((same3_any A1 A2 xn yn xn.length yn.length c1 c2 rfl rfl (by have := HBK.out.1; omega) (fun i => by have := HBK.out.2 i; omega) wc (HG1.out.kept (NT.below hW)).to_RG (HG2.out.kept (NT.below hW)).to_RG).mono fun _ _ hp => ⟨hp.1, HW.out.trans (hp.2.mono HW.out.size)⟩)
          clear x0 x1 x2 x3 x4 x5 x6 x7 y0 y1 y2 y3 y4 y5 y6 y7 hW hB HG1 HG2 HBK hbw hbw'
          by_cases d0 : xk = yk
          rotate_left
          · have HZ := Lib.hid (HNE.out fun e => d0 (by injection e))
            have t0 : (xk == yk) = false := by simpa using d0
            have z0 : (xk != yk) = true := by simpa using d0
            clear HNE HEQ d0 HS
            go_wp2
            go_ret
            exact ⟨by rw [HZ.out]; rfl, by first | exact HW.out | exact HW.out.drew⟩
          subst d0
          have t0 : (xk == xk) = true := by simp
          have z0 : (xk != xk) = false := by simp
          by_cases d1 : xr = yr
          rotate_left
          · have HZ := Lib.hid (HNE.out fun e => d1 (by injection e))
            have t1 : (xr == yr) = false := by simpa using d1
            have z1 : (xr != yr) = true := by simpa using d1
            clear HNE HEQ d1 HS
            go_wp2
            go_ret
            exact ⟨by rw [HZ.out]; rfl, by first | exact HW.out | exact HW.out.drew⟩
          subst d1
          have t1 : (xr == xr) = true := by simp
          have z1 : (xr != xr) = false := by simp
          by_cases d2 : xb = yb
          rotate_left
          · have HZ := Lib.hid (HNE.out fun e => d2 (by injection e))
            have t2 : (xb == yb) = false := by simpa using d2
            have z2 : (xb != yb) = true := by simpa using d2
            clear HNE HEQ d2 HS
            go_wp2
            go_ret
            exact ⟨by rw [HZ.out]; rfl, by first | exact HW.out | exact HW.out.drew⟩
          subst d2
          have t2 : (xb == xb) = true := by simp
          have z2 : (xb != xb) = false := by simp
          by_cases d3 : xp = yp
          rotate_left
          · have HZ := Lib.hid (HNE.out fun e => d3 (by injection e))
            have t3 : (xp == yp) = false := by simpa using d3
            have z3 : (xp != yp) = true := by simpa using d3
            clear HNE HEQ d3 HS
            go_wp2
            go_ret
            exact ⟨by rw [HZ.out]; rfl, by first | exact HW.out | exact HW.out.drew⟩
          subst d3
          have t3 : (xp == xp) = true := by simp
          have z3 : (xp != xp) = false := by simp
          by_cases d4 : xi = yi
          rotate_left
          · have HZ := Lib.hid (HNE.out fun e => d4 (by injection e))
            have t4 := (toList_ne d4).1
            have z4 := (toList_ne d4).2
            clear HNE HEQ d4 HS
            go_wp2
            go_ret
            exact ⟨by rw [HZ.out]; rfl, by first | exact HW.out | exact HW.out.drew⟩
          subst d4
          have t4 : (xi.toList == xi.toList) = true := by simp
          have z4 : (xi.toList != xi.toList) = false := by simp
          by_cases d5 : xt = yt
          rotate_left
          · have HZ := Lib.hid (HNE.out fun e => d5 (by injection e))
            have t5 := (toList_ne d5).1
            have z5 := (toList_ne d5).2
            clear HNE HEQ d5 HS
            go_wp2
            go_ret
            exact ⟨by rw [HZ.out]; rfl, by first | exact HW.out | exact HW.out.drew⟩
          subst d5
          have t5 : (xt.toList == xt.toList) = true := by simp
          have z5 : (xt.toList != xt.toList) = false := by simp
          by_cases d6 : xc = yc
          rotate_left
          · have HZ := Lib.hid (HNE.out fun e => d6 (by injection e))
            have t6 : (xc == yc) = false := by simpa using d6
            have z6 : (xc != yc) = true := by simpa using d6
            clear HNE HEQ d6 HS
            go_wp2
            go_ret
            exact ⟨by rw [HZ.out]; rfl, by first | exact HW.out | exact HW.out.drew⟩
          subst d6
          have t6 : (xc == xc) = true := by simp
          have z6 : (xc != xc) = false := by simp
          cases hsl : sameL xn yn with
          | true =>
            have he : xn = yn := of_decide_eq_true hsl
            have HZ := Lib.hid (HEQ.out (by rw [he]))
            rw [hsl] at HS
            clear HNE HEQ he hsl
            go_wp2_with (go_at_call 21; (with_reducible refine HS.out.mono ?_); rintro e w2 ⟨rfl, hp⟩; have HP := Lib.hid hp; clear hp)
            go_roundw
            case rel => exact ⟨k + 1, hlt, by go_num, HZ, HP⟩
            case measure => simp [intOf]; omega
          | false =>
            have he : xn ≠ yn := of_decide_eq_false hsl
            have HZ := Lib.hid (HNE.out fun e => he (by injection e))
            rw [hsl] at HS
            clear HNE HEQ he hsl
            go_wp2_with (go_at_call 21; (with_reducible refine HS.out.mono ?_); rintro e w2 ⟨rfl, hp⟩; have HP := Lib.hid hp; clear hp)
            go_ret
            exact ⟨by rw [HZ.out]; rfl, HP.out⟩
      · have : k = n := by omega
        subst this
        have HZ : Hid (es = es') := Lib.hid (by
          have h := HK.out
          rwa [List.take_of_length_le (by rw [← HN.out]; exact Nat.le_refl _), List.take_of_length_le (by rw [← HN'.out]; exact Nat.le_refl _)] at h)
        clear HK HR HR' HN HN' HB
        go_wp2
        go_ret
        exact ⟨by rw [decide_eq_true HZ.out]; rfl, hB.out⟩
  · have HZ : Hid (decide (es = es') = false) := Lib.hid (decide_eq_false fun e => hnn (by rw [hn, hn', e]))
    have hnb : ((n : Int) == n') = false := by simp; omega
    have hnc : ((n : Int) != n') = true := by simp; omega
    clear hn hn' hR hR' hnn hb
    go_enter Tryd.func13, Tryd.ntmps13
    go_wp2
    go_ret
    exact ⟨by rw [HZ.out]; rfl, Below.refl _ _⟩

end Go.Proofs.YtmmkcfjncpcabaaDoor

namespace Go.Proofs.YtmmkcfjncpcabaaDoor
open Go.RowKit

theorem EvL.at {w : World} : ∀ (es : List PE) (cs : List Value), EvL w es cs → ∀ i, i < es.length → ∃ e, EOK w e (es[i]?.getD pe0) ∧ ∀ j, j < 8 → cs[i * 8 + j]? = e.cells[j]?
  | [], _, _, i, hi => by cases hi
  | p :: ps, cs, ⟨e, cs', h1, h2, h3⟩, i, hi => by
    subst h1
    have hl : e.cells.length = 8 := rfl
    match i, hi with
    | 0, _ => exact ⟨e, h2, fun j hj => by rw [Nat.zero_mul, Nat.zero_add, List.getElem?_append_left (by omega)]⟩
    | i + 1, hi =>
      obtain ⟨e', h4, h5⟩ := EvL.at ps cs' h3 i (by simpa using hi)
      refine ⟨e', by simpa using h4, fun j hj => ?_⟩
      rw [List.getElem?_append_right (by omega), ← h5 j hj, hl, show (i + 1) * 8 + j - 8 = i * 8 + j by omega]
theorem EvS.of_cells {w : World} {b off : Nat} {es : List PE} {cs : List Value} (hb : b < w.heap.size) (hl : EvL w es cs) (hc : ∀ k, k < es.length * 8 → w.cell? ⟨b, off + k, none⟩ = cs[k]?) : EvS w (some ⟨b, off, none⟩) es := fun _ => by
  refine ⟨b, off, rfl, hb, fun i hi => ?_⟩
  obtain ⟨e, ⟨h1, h2, h3, h4, h5, h6, h7, A, c, h8, h9⟩, hj⟩ := EvL.at es cs hl i hi
  have g : ∀ j, j < 8 → w.cell? ⟨b, off + i * 8 + j, none⟩ = e.cells[j]? := fun j hj8 => by rw [Nat.add_assoc, hc _ (by omega), hj j hj8]
  refine ⟨A, c, h9, (g 0 (by omega)).trans ?_, (g 1 (by omega)).trans ?_, (g 2 (by omega)).trans ?_, (g 3 (by omega)).trans ?_, (g 4 (by omega)).trans ?_, (g 5 (by omega)).trans ?_, (g 6 (by omega)).trans ?_, (g 7 (by omega)).trans ?_⟩
  · rw [← h1]; rfl
  · rw [← h2]; rfl
  · rw [← h3]; rfl
  · rw [← h4]; rfl
  · rw [← h8]; rfl
  · rw [← h5]; rfl
  · rw [← h6]; rfl
  · rw [← h7]; rfl
theorem EvS.of_own {w : World} {B n c : Nat} {A : Option Addr} {es : List PE} {cs : List Value} (h : w.ownsRow B 41 8 (.slice A n c) n cs) (hn : n = es.length) (hl : EvL w es cs) : EvS w A es := fun hne => by
  obtain ⟨A', c', e, hA⟩ := own_form h
  injection e with e1 _ _
  subst e1
  obtain ⟨g, rfl⟩ := hA (by rw [hn]; exact List.length_pos_iff.2 hne)
  exact EvS.of_cells (b := g) (off := 0) (own_lt' h rfl).2 hl (fun k hk => by rw [Nat.zero_add]; exact h.cellAt k (by omega)) hne
/-- The tables. -/
structure GW (w : World) : Prop where
  ut : UT w
  ml : ML w
theorem GW.gt {w : World} (h : GW w) : GT w w.heap.size := ⟨h.ut, h.ut.2.1, h.ut.2.2, h.ml, h.ml.elim fun _ hm => block_lt_of_cell hm⟩
theorem GW.below {w w' : World} (h : GW w) (hb : Below w.heap.size w w') : GW w' := ⟨h.ut.below hb, h.ml.imp fun _ hm => (hb.cell (p := ⟨2, 0, none⟩) (block_lt_of_cell hm)).trans hm⟩
theorem GW.at {w w' : World} (h : GW w) (hb : Below w.heap.size w w') : GT w' w.heap.size := ⟨(h.below hb).ut, h.ut.2.1, h.ut.2.2, (h.below hb).ml, h.ml.elim fun _ hm => block_lt_of_cell hm⟩
def awB : List UInt8 := [27, 91, 49, 59, 51, 49, 109, 27, 93, 48, 59, 97, 7]
def awE : List PE := [⟨3, 0, 109, 0, [[1], [31]], ⟨#[]⟩, ⟨#[]⟩, false⟩, ⟨4, 0, 0, 0, [], ⟨#[]⟩, ⟨#[48, 59, 97]⟩, false⟩]
theorem aw_plain : (takesP (newP 99) awB).2 = awE := by decide
def awW (W : World) : World := W.alloc (.cells #[.int .u8 27, .int .u8 91, .int .u8 49, .int .u8 59, .int .u8 51, .int .u8 49, .int .u8 109, .int .u8 27, .int .u8 93, .int .u8 48, .int .u8 59, .int .u8 97, .int .u8 7] 5 (13, 14))
theorem aw_all {w w2 : World} (hG : GW w) (hm : MI w2 w.heap.size (newP 99) [] (newA 99)) (hb : Below w.heap.size w w2) : Calls Tryd.prog 14 #[.pointer (some ⟨w.heap.size, 0, none⟩), .slice (some ⟨w2.heap.size, 0, none⟩) 13 13] (awW w2) fun e w' => ∃ A c, e = .returned (.slice A 2 c) ∧ EvS w' A awE ∧ Below w.heap.size w w' := by
  have ha : Below w2.heap.size w2 (awW w2) := (Below.refl _ _).alloc (Nat.le_refl _) _
  have hw : Below w.heap.size w (awW w2) := hb.trans (ha.mono hb.size)
  obtain ⟨hm2, hf2⟩ := hm.past ha
  refine (all_mi hm2 (hG.at hw) (GQ.new (by omega)) (some ⟨w2.heap.size, 0, none⟩) awB 13 13 rfl (fun _ => ⟨w2.heap.size, 0, rfl, by simp [awW], fun hmu => by have := (hm.low hmu).2; omega, fun k hk => ?_⟩) (by omega)).mono fun e w' hp => ?_
  · rw [Nat.zero_add]
    refine (cell_of_row _ _ k _ _ _ (heap_alloc_new w2 _)).trans ?_
    have hk' : k < 13 := hk
    rcases (by omega : k = 0 ∨ k = 1 ∨ k = 2 ∨ k = 3 ∨ k = 4 ∨ k = 5 ∨ k = 6 ∨ k = 7 ∨ k = 8 ∨ k = 9 ∨ k = 10 ∨ k = 11 ∨ k = 12) with rfl | rfl | rfl | rfl | rfl | rfl | rfl | rfl | rfl | rfl | rfl | rfl | rfl
    all_goals rfl
  · obtain ⟨v, he, cs, a', A, c, hv, hm3, hf, ho, hl, _⟩ := hp
    rw [aw_plain] at hv ho hl
    subst hv
    exact ⟨A, c, he, EvS.of_own ho rfl hl, hw.trans (hf.below hm2)⟩
def aw4 (W : World) : World := (((W.alloc (.cells #[.int .i64 1] 3)).alloc (.cells #[.int .i64 31] 3)).alloc (.cells #[.slice (some ⟨W.heap.size, 0, none⟩) 1 1, .slice (some ⟨W.heap.size + 1, 0, none⟩) 1 1] 48)).alloc (.cells #[.int .i64 3, .int .i32 0, .int .u8 109, .int .u8 0, .slice (some ⟨W.heap.size + 2, 0, none⟩) 2 2, .string ⟨#[]⟩, .string ⟨#[]⟩, .bool false, .int .i64 4, .int .i32 0, .int .u8 0, .int .u8 0, .slice none 0 0, .string ⟨#[]⟩, .string ⟨#[48, 59, 97]⟩, .bool false] 41)
theorem aw4_ev (W : World) : EvS (aw4 W) (some ⟨W.heap.size + 3, 0, none⟩) awE := by
  have hz : (aw4 W).heap.size = W.heap.size + 4 := by unfold aw4; simp
  have h3 : (aw4 W).heap[W.heap.size + 3]? = some (.cells #[.int .i64 3, .int .i32 0, .int .u8 109, .int .u8 0, .slice (some ⟨W.heap.size + 2, 0, none⟩) 2 2, .string ⟨#[]⟩, .string ⟨#[]⟩, .bool false, .int .i64 4, .int .i32 0, .int .u8 0, .int .u8 0, .slice none 0 0, .string ⟨#[]⟩, .string ⟨#[48, 59, 97]⟩, .bool false] 41 (0, 0)) := by
    have := heap_alloc_new (((W.alloc (.cells #[.int .i64 1] 3)).alloc (.cells #[.int .i64 31] 3)).alloc (.cells #[.slice (some ⟨W.heap.size, 0, none⟩) 1 1, .slice (some ⟨W.heap.size + 1, 0, none⟩) 1 1] 48)) (.cells #[.int .i64 3, .int .i32 0, .int .u8 109, .int .u8 0, .slice (some ⟨W.heap.size + 2, 0, none⟩) 2 2, .string ⟨#[]⟩, .string ⟨#[]⟩, .bool false, .int .i64 4, .int .i32 0, .int .u8 0, .int .u8 0, .slice none 0 0, .string ⟨#[]⟩, .string ⟨#[48, 59, 97]⟩, .bool false] 41)
    rw [show (((W.alloc (.cells #[.int .i64 1] 3)).alloc (.cells #[.int .i64 31] 3)).alloc (.cells #[.slice (some ⟨W.heap.size, 0, none⟩) 1 1, .slice (some ⟨W.heap.size + 1, 0, none⟩) 1 1] 48)).heap.size = W.heap.size + 3 by simp] at this
    exact this
  have h2 : (aw4 W).heap[W.heap.size + 2]? = some (.cells #[.slice (some ⟨W.heap.size, 0, none⟩) 1 1, .slice (some ⟨W.heap.size + 1, 0, none⟩) 1 1] 48 (0, 0)) := by
    have := heap_alloc_new ((W.alloc (.cells #[.int .i64 1] 3)).alloc (.cells #[.int .i64 31] 3)) (.cells #[.slice (some ⟨W.heap.size, 0, none⟩) 1 1, .slice (some ⟨W.heap.size + 1, 0, none⟩) 1 1] 48)
    rw [show ((W.alloc (.cells #[.int .i64 1] 3)).alloc (.cells #[.int .i64 31] 3)).heap.size = W.heap.size + 2 by simp] at this
    exact alloc_block this
  have h1 : (aw4 W).heap[W.heap.size + 1]? = some (.cells #[.int .i64 31] 3 (0, 0)) := by
    have := heap_alloc_new (W.alloc (.cells #[.int .i64 1] 3)) (.cells #[.int .i64 31] 3)
    rw [show (W.alloc (.cells #[.int .i64 1] 3)).heap.size = W.heap.size + 1 by simp] at this
    exact alloc_block (alloc_block this)
  have h0 : (aw4 W).heap[W.heap.size]? = some (.cells #[.int .i64 1] 3 (0, 0)) := alloc_block (alloc_block (alloc_block (heap_alloc_new W _)))
  have hr : RGt (aw4 W) (some ⟨W.heap.size + 2, 0, none⟩) [[1], [31]] := fun _ => by
    refine ⟨W.heap.size + 2, 0, _, rfl, h2, fun i hi => ?_⟩
    rw [Nat.zero_add, cell_of_row _ _ _ _ _ _ h2]
    match i, hi with
    | 0, _ => exact ⟨_, 1, rfl, fun _ => ⟨W.heap.size, 0, _, rfl, h0, fun k hk => by
        rw [cell_of_row _ _ _ _ _ _ h0]
        match k, hk with
        | 0, _ => rfl⟩, by simp⟩
    | 1, _ => exact ⟨_, 1, rfl, fun _ => ⟨W.heap.size + 1, 0, _, rfl, h1, fun k hk => by
        rw [cell_of_row _ _ _ _ _ _ h1]
        match k, hk with
        | 0, _ => rfl⟩, by simp⟩
  refine EvS.of_cells (cs := [.int .i64 3, .int .i32 0, .int .u8 109, .int .u8 0, .slice (some ⟨W.heap.size + 2, 0, none⟩) 2 2, .string ⟨#[]⟩, .string ⟨#[]⟩, .bool false, .int .i64 4, .int .i32 0, .int .u8 0, .int .u8 0, .slice none 0 0, .string ⟨#[]⟩, .string ⟨#[48, 59, 97]⟩, .bool false]) (by omega) ⟨⟨3, 0, 109, 0, .slice (some ⟨W.heap.size + 2, 0, none⟩) 2 2, ⟨#[]⟩, ⟨#[]⟩, false⟩, _, rfl, ⟨rfl, rfl, rfl, rfl, rfl, rfl, rfl, _, 2, rfl, hr⟩, ⟨4, 0, 0, 0, .slice none 0 0, ⟨#[]⟩, ⟨#[48, 59, 97]⟩, false⟩, [], rfl, ⟨rfl, rfl, rfl, rfl, rfl, rfl, rfl, none, 0, rfl, rg_nil _⟩, rfl⟩ fun k hk => ?_
  rw [Nat.zero_add, cell_of_row _ _ _ _ _ _ h3]
  simp
set_option maxRecDepth 100000 in
set_option maxHeartbeats 4000000 in
theorem awake_any (w : World) (hG : GW w) : Calls Tryd.prog 10 #[] w fun e w' => e = .returned (.bool true) ∧ Below w.heap.size w w' := by
  have HN : Hid (Calls Tryd.prog 19 #[.int .i64 99] w fun e w' => e = .returned (.tuple #[.pointer (some ⟨w.heap.size, 0, none⟩), .int .i64 0]) ∧ MI w' w.heap.size (newP 99) [] (newA 99) ∧ Below w.heap.size w w') := Lib.hid (new_any 99 (by omega) (by omega) w)
  have HA : Hid (∀ w2, MI w2 w.heap.size (newP 99) [] (newA 99) → Below w.heap.size w w2 → Calls Tryd.prog 14 #[.pointer (some ⟨w.heap.size, 0, none⟩), .slice (some ⟨w2.heap.size, 0, none⟩) 13 13] (awW w2) fun e w' => ∃ A c, e = .returned (.slice A 2 c) ∧ EvS w' A awE ∧ Below w.heap.size w w') := Lib.hid fun w2 hm hb => aw_all hG hm hb
  have HS : Hid (∀ W A c, EvS W A awE → Below w.heap.size w W → Calls Tryd.prog 13 #[.slice A 2 c, .slice (some ⟨W.heap.size + 3, 0, none⟩) 2 2] (aw4 W) fun e w' => e = .returned (.bool true) ∧ Below w.heap.size w w') := Lib.hid fun W A c h hW => by
    have hb : Below W.heap.size W (aw4 W) := belA (belA (belA (belA (Below.refl _ _) _) _) _) _
    refine (same4_any A (some ⟨W.heap.size + 3, 0, none⟩) awE awE 2 2 c 2 rfl rfl (by omega) (aw4 W) (h.past hb) (aw4_ev W) (fun i => ?_)).mono fun e w' hp => ⟨by rw [hp.1]; rfl, (hW.trans (hb.mono hW.size)).trans (hp.2.mono (Nat.le_trans hW.size hb.size))⟩
    match i with
    | 0 => exact ⟨by decide, fun j => by match j with | 0 => decide | 1 => decide | k + 2 => simp [awE]⟩
    | 1 => exact ⟨by decide, fun j => by simp [awE]⟩
    | k + 2 => exact ⟨by simp [awE, pe0], fun j => by simp [awE, pe0]⟩
  unfold awW at HA
  unfold aw4 at HS
  clear hG
  have kc := fun (w : World) (C : Array Value) (n c : Nat) => Lib.run_convert_bytes_const (P := Tryd.prog) w 22 5 C n c Tryd.underlying22 Tryd.underlying5
  go_enter Tryd.func10, Tryd.ntmps10
  go_wp2_with (first
    | (go_at_call 19; (with_reducible refine HN.out.mono ?_); rintro e w2 ⟨rfl, hm2, hb2⟩; have HM2 := Lib.hid hm2; have HB2 := Lib.hid hb2; clear hm2 hb2)
    | (go_at_call 14; (with_reducible refine (HA.out _ HM2.out HB2.out).mono ?_); rintro e w3 ⟨A3, c3, rfl, hv3, hb3⟩; have HV3 := Lib.hid hv3; have HB3 := Lib.hid hb3; clear hv3 hb3)
    | (go_at_call 13; (with_reducible refine (HS.out _ _ _ HV3.out HB3.out).mono ?_); rintro e w4 ⟨rfl, hb4⟩; have HB4 := Lib.hid hb4; clear hb4))
  go_ret
  exact ⟨rfl, HB4.out⟩

end Go.Proofs.YtmmkcfjncpcabaaDoor

namespace Go.Proofs.YtmmkcfjncpcabaaDoor
open Go.RowKit

/-- What is collected has its bounds. -/
structure GH (s : PM) : Prop where
  gq : GQ s
  inter : s.inter.length ≤ 2
  pay : s.pay.length ≤ s.most
theorem GH.new {m : Nat} (h : m ≤ 65536) : GH (newP m) := ⟨GQ.new h, Nat.zero_le _, Nat.zero_le _⟩
theorem GH.fresh {s : PM} (h : GH s) (b : Bool) : GH (s.fresh b) := ⟨h.gq.fresh b, Nat.zero_le _, Nat.zero_le _⟩
theorem GH.at {s : PM} (h : GH s) {st : Int} (hst : st = 0 ∨ st = 1 ∨ st = 2 ∨ st = 3 ∨ st = 4 ∨ st = 5) : GH (s.at st) := ⟨h.gq.at hst, Nat.zero_le _, Nat.zero_le _⟩
theorem GH.between {s : PM} (h : GH s) (x : UInt8) : GH (betweenP s x) := by
  refine ⟨h.gq.between x, ?_, ?_⟩ <;> unfold betweenP
  · repeat' split
    · exact h.inter
    · simp only [List.length_append, List.length_singleton]; omega
    · exact Nat.zero_le _
  · repeat' split
    · exact h.pay
    · exact h.pay
    · exact Nat.zero_le _
theorem GH.payB {s : PM} (h : GH s) (x : UInt8) : GH (payP s x) := by
  refine ⟨h.gq.pay x, ?_, ?_⟩ <;> unfold payP
  · repeat' split
    all_goals exact h.inter
  · repeat' split
    · exact h.pay
    · simp only [List.length_append, List.length_singleton]; omega
    · exact h.pay
theorem GH.par {s : PM} (h : GH s) (x : UInt8) : GH (parP s x) := by
  have hb := h.between x
  refine ⟨h.gq.par x, ?_, ?_⟩ <;> unfold parP
  · repeat' split
    · exact hb.inter
    · exact h.inter
    · exact Nat.zero_le _
    · exact h.inter
    · exact Nat.zero_le _
    · exact h.inter
    · exact Nat.zero_le _
  · repeat' split
    · exact hb.pay
    · exact h.pay
    · exact Nat.zero_le _
    · exact h.pay
    · exact Nat.zero_le _
    · exact h.pay
    · exact Nat.zero_le _
theorem GH.endEsc {s : PM} (h : GH s) (x : Int) : GH (endEscP s x).1 := by
  unfold endEscP
  split
  · exact h.at (.inl rfl)
  · split
    · exact h.at (beginsZ_st x)
    · exact h.at (.inl rfl)
theorem GH.endSeq {s : PM} (h : GH s) (x : Int) : GH (endSeqP s x).1 := by
  unfold endSeqP
  split
  · exact h.at (.inl rfl)
  · exact h.at (.inl rfl)
theorem GH.scal1 {s : PM} (h : GH s) (r : Nat) : GH (scal1 s r).1 := by
  unfold Go.Proofs.YtmmkcfjncpcabaaDoor.scal1
  split
  · exact h
  · split
    · exact h
    · split
      · exact h.endEsc _
      · exact h
theorem GH.scal : ∀ (rs : List Nat) {s : PM}, GH s → GH (scalP s rs).1
  | [], _, h => h
  | r :: rs, _, h => GH.scal rs (h.scal1 r)
theorem GH.wait {s : PM} (h : GH s) (ps : List Nat) : GH { s with ps := ps } := ⟨h.gq.wait ps, h.inter, h.pay⟩
theorem GH.rest {s : PM} (h : GH s) (x : Nat) : GH (restP s x).1 := GH.scal _ (h.wait _)
theorem GH.brk {s : PM} (h : GH s) (x : Nat) : GH (breakP s x).1 := (h.at (.inl rfl)).rest x
theorem GH.take {s : PM} (h : GH s) (x : UInt8) : GH (takeP s x).1 := by
  have he : GH (endP s).1 := GH.scal _ (h.wait [])
  unfold takeP escTakeP seqTakeP devTakeP cmdTakeP
  repeat' split
  all_goals first
    | exact he.at (.inl rfl)
    | exact he.at (.inr (.inl rfl))
    | exact h
    | exact h.between x
    | exact h.endEsc _
    | exact h.brk _
    | exact h.par x
    | exact h.endSeq _
    | exact h.payB x
    | exact h.at (.inl rfl)
    | exact h.rest _
    | exact ⟨⟨⟨h.gq.gp.head, h.gq.gp.hlen, h.gq.gp.most⟩, h.gq.st⟩, h.inter, h.pay⟩
theorem GH.takes : ∀ (xs : List UInt8) {s : PM}, GH s → GH (takesP s xs).1
  | [], _, h => h
  | x :: xs, _, h => GH.takes xs (h.take x)
theorem held_gh {w : World} {D : Nat} {s : PM} {es : List PE} {a : PV} (h : MI w D s es a) (hH : GH s) : Calls Tryd.prog 16 #[.pointer (some ⟨D, 0, none⟩)] w fun e w' => e = .returned (.int .i64 (heldP s : Nat)) ∧ Below w.heap.size w w' :=
  held_mi h hH.gq.gp hH.inter (Nat.le_trans hH.pay hH.gq.gp.most)
set_option maxRecDepth 100000 in
theorem made_any (k : Nat) (hk : k < 256) (w : World) : Calls Tryd.prog 11 #[.int .u8 k] w fun e w' => e = .returned (.pointer (some ⟨w.heap.size, 0, none⟩)) ∧ MI w' w.heap.size (newP (k + 1)) [] (newA (k + 1)) ∧ Below w.heap.size w w' := by
  have HN : Hid (∀ z : Int, z = k + 1 → Calls Tryd.prog 19 #[.int .i64 z] w fun e w' => e = .returned (.tuple #[.pointer (some ⟨w.heap.size, 0, none⟩), .int .i64 0]) ∧ MI w' w.heap.size (newP (k + 1)) [] (newA (k + 1)) ∧ Below w.heap.size w w') := Lib.hid fun z hz => by
    rw [show z = ((k + 1 : Nat) : Int) by omega]
    exact new_any (k + 1) (by omega) (by omega) w
  go_enter Tryd.func11, Tryd.ntmps11
  go_wp2_with (go_at_call 19; (with_reducible refine (HN.out _ (by first | rfl | (unfold wrap64; omega))).mono ?_); rintro e w1 ⟨rfl, hm1, hb1⟩; have HM1 := Lib.hid hm1; have HB1 := Lib.hid hb1; clear hm1 hb1)
  go_ret
  exact ⟨rfl, HM1.out, HB1.out⟩

end Go.Proofs.YtmmkcfjncpcabaaDoor

namespace Go.Proofs.YtmmkcfjncpcabaaDoor
open Go.RowKit

/-- Another parser's call leaves this one as it was. -/
theorem MI.other {w w' : World} {D : Nat} {s : PM} {a : PV} (h : MI w D s [] a) {S : Nat → Prop} (hk : KB S w w') (hd : ∀ i, S i → ¬ Mut D a i) : MI w' D s [] a := by
  have hD : PB w' D a := (hk.block D (lt_of_block h.blk) (fun hS => hd D hS (.inl rfl))).trans h.blk
  obtain ⟨cs, ho, hl⟩ := h.evs
  have hcs : cs = [] := hl
  subst hcs
  exact ⟨hD, h.pre, own_keeps h.head hk fun g e hS => hd g hS (.inr (.inl e)), own_keeps h.inter hk fun g e hS => hd g hS (.inr (.inr (.inl e))), h.wrong, h.last, own_keeps h.pay hk fun g e hS => hd g hS (.inr (.inr (.inr (.inl e)))), h.cut, h.state, h.most, h.dec.block h.blk hD rfl rfl rfl rfl rfl, ⟨[], own_keeps ho hk fun g e hS => hd g hS (.inr (.inr (.inr (.inr e)))), rfl⟩, h.d1, h.d2⟩
/-- Two parsers, and nothing that the one may turn is of the other. -/
def P2 (w : World) (D E : Nat) (s t : PM) : Prop := ∃ a b, MI w D s [] a ∧ MI w E t [] b ∧ ∀ i, Mut D a i → ¬ Mut E b i
theorem P2.swap {w : World} {D E : Nat} {s t : PM} (h : P2 w D E s t) : P2 w E D t s := by
  obtain ⟨a, b, h1, h2, h3⟩ := h
  exact ⟨b, a, h2, h1, fun i hi hj => h3 i hj hi⟩
theorem P2.past {w w' : World} {D E : Nat} {s t : PM} (h : P2 w D E s t) (hb : Below w.heap.size w w') : P2 w' D E s t := by
  obtain ⟨a, b, h1, h2, h3⟩ := h
  exact ⟨a, b, (h1.past hb).1, (h2.past hb).1, h3⟩
/-- Two parsers, and the events that the first has told: a row that neither turns any more. -/
def P2V (w : World) (D E : Nat) (s t : PM) (v : Value) (es : List PE) : Prop :=
  ∃ a b A c cs, MI w D s [] a ∧ MI w E t [] b ∧ (∀ i, Mut D a i → ¬ Mut E b i) ∧ v = .slice A es.length c ∧ w.ownsRow (D + 1) 41 8 v es.length cs ∧ EvL w es cs ∧ ∀ g, some g = v.ownBlock → ¬ Mut D a g ∧ ¬ Mut E b g
theorem P2.call {w : World} {D E : Nat} {s t s' : PM} {es : List PE} {f : FuncId} {args : Array Value} (h : P2 w D E s t)
    (hc : ∀ a, MI w D s [] a → Calls Tryd.prog f args w fun e w' => ∃ v, e = .returned v ∧ AP D s' es a w v w') :
    Calls Tryd.prog f args w fun e w' => ∃ v, e = .returned v ∧ P2V w' D E s' t v es ∧ Below D w w' := by
  obtain ⟨a, b, h1, h2, h3⟩ := h
  refine (hc a h1).mono fun e w' ⟨v, he, cs, a', A, c, hv, hm, hf, ho, hl, hn, hg⟩ => ⟨v, he, ⟨a', b, A, c, cs, hm, h2.other hf.kb h3, fun i hi hj => (hf.mu i hi).elim (fun hi => h3 i hi hj) (fun hs => by have := (h2.low hj).2; omega), hv, ho, hl, fun g e => ⟨hn g e, fun hj => (hg g e).elim (fun hi => h3 g hi hj) (fun hs => by have := (h2.low hj).2; omega)⟩⟩, hf.below h1⟩
theorem P2V.p2 {w : World} {D E : Nat} {s t : PM} {v : Value} {es : List PE} (h : P2V w D E s t v es) : P2 w D E s t := by
  obtain ⟨a, b, _, _, _, h1, h2, h3, _⟩ := h
  exact ⟨a, b, h1, h2, h3⟩
theorem P2V.evs {w : World} {D E : Nat} {s t : PM} {v : Value} {es : List PE} (h : P2V w D E s t v es) : ∃ A c, v = .slice A es.length c ∧ EvS w A es := by
  obtain ⟨a, b, A, c, cs, h1, h2, h3, hv, ho, hl, hg⟩ := h
  refine ⟨A, c, hv, EvS.of_own (by rw [← hv]; exact ho) rfl hl⟩
theorem P2V.past {w w' : World} {D E : Nat} {s t : PM} {v : Value} {es : List PE} (h : P2V w D E s t v es) (hb : Below w.heap.size w w') : P2V w' D E s t v es := by
  obtain ⟨a, b, A, c, cs, h1, h2, h3, hv, ho, hl, hg⟩ := h
  exact ⟨a, b, A, c, cs, (h1.past hb).1, (h2.past hb).1, h3, hv, own_past ho hb, EvL.kept (NT.below hb) _ _ hl, hg⟩
/-- Behind that the second is called: both rows of events read as they did. -/
theorem P2V.other {w : World} {D E : Nat} {s t t' : PM} {v : Value} {es es' : List PE} {f : FuncId} {args : Array Value} (h : P2V w D E s t v es)
    (hc : ∀ b, MI w E t [] b → Calls Tryd.prog f args w fun e w' => ∃ v, e = .returned v ∧ AP E t' es' b w v w') :
    Calls Tryd.prog f args w fun e w' => ∃ v', e = .returned v' ∧ P2 w' D E s t' ∧ (∃ A c, v = .slice A es.length c ∧ EvS w' A es) ∧ (∃ A c, v' = .slice A es'.length c ∧ EvS w' A es') ∧ Below E w w' := by
  obtain ⟨a, b, A, c, cs, h1, h2, h3, hv, ho, hl, hg⟩ := h
  refine (hc b h2).mono fun e w' ⟨v', he, cs', b', A', c', hv', hm, hf, ho', hl', hn, hg'⟩ => ⟨v', he, ⟨a, b', h1.other hf.kb (fun i hi hj => h3 i hj hi), hm, fun i hi hj => (hf.mu i hj).elim (fun hj => h3 i hi hj) (fun hs => by have := (h1.low hi).2; omega)⟩, ⟨A, c, hv, ?_⟩, ⟨A', c', hv', ?_⟩, hf.below h2⟩
  · have ho2 := own_keeps ho hf.kb (fun g e => (hg g e).2)
    exact EvS.of_own (by rw [← hv]; exact ho2) rfl (EvL.kept (h2.nt hf.kb) _ _ hl)
  · exact EvS.of_own (by rw [← hv']; exact ho') rfl hl'
theorem RB.low {w : World} {D : Nat} {s : PM} {es : List PE} {a : PV} (h : MI w D s es a) {b off n c : Nat} {bs : List UInt8} (hb : b < D) (_ : n ≤ c) (hc : ∀ k, k < bs.length → w.cell? ⟨b, off + k, none⟩ = some (.int .u8 (bs[k]?.getD 0).toNat)) : RB D a w (some ⟨b, off, none⟩) bs :=
  fun _ => ⟨b, off, rfl, Nat.lt_trans hb (lt_of_block h.blk), fun hm => by have := (h.low hm).1; omega, hc⟩
theorem scalP_ps : ∀ (rs : List Nat) (s : PM), (scalP s rs).1.ps = s.ps ∧ (scalP s rs).1.most = s.most
  | [], _ => ⟨rfl, rfl⟩
  | r :: rs, s => by
    have h := scalP_ps rs (scal1 s r).1
    have h1 : (scal1 s r).1.ps = s.ps ∧ (scal1 s r).1.most = s.most := by
      unfold scal1 endEscP
      repeat' split
      all_goals exact ⟨rfl, rfl⟩
    exact ⟨h.1.trans h1.1, h.2.trans h1.2⟩
theorem takeP_most (s : PM) (x : UInt8) : (takeP s x).1.most = s.most := by
  have he : (endP s).1.most = s.most := (scalP_ps _ _).2
  have hr : (restP s x.toNat).1.most = s.most := (scalP_ps _ _).2
  have hb : (breakP s x.toNat).1.most = s.most := (scalP_ps _ _).2
  have h1 : (betweenP s x).most = s.most := by
    unfold betweenP
    repeat' split
    all_goals rfl
  have h2 : (parP s x).most = s.most := by
    unfold parP
    repeat' split
    all_goals first | rfl | exact h1
  have h3 : (payP s x).most = s.most := by
    unfold payP
    repeat' split
    all_goals rfl
  have h4 : (endEscP s x.toNat).1.most = s.most := by
    unfold endEscP
    repeat' split
    all_goals rfl
  have h5 : (endSeqP s x.toNat).1.most = s.most := by
    unfold endSeqP
    repeat' split
    all_goals rfl
  unfold takeP escTakeP seqTakeP devTakeP cmdTakeP
  repeat' split
  all_goals first | rfl | exact he | exact hr | exact hb | exact h1 | exact h2 | exact h3 | exact h4 | exact h5
theorem takesP_most : ∀ (xs : List UInt8) (s : PM), (takesP s xs).1.most = s.most
  | [], _ => rfl
  | x :: xs, s => (takesP_most xs _).trans (takeP_most s x)
/-- A cancel leaves a parser that is as a new one. -/
theorem cancel_new (s : PM) (x : UInt8) (h : x.toNat = 24 ∨ x.toNat = 26) : (takeP s x).1 = newP s.most ∧ ∃ l, (takeP s x).2 = l ++ [execP x.toNat] := by
  unfold takeP
  rw [if_pos h]
  obtain ⟨h1, h2⟩ := scalP_ps (readE s) { s with ps := [] }
  refine ⟨?_, _, rfl⟩
  show (endP s).1.at 0 = newP s.most
  unfold PM.at PM.fresh newP endP
  rw [h1, h2]

end Go.Proofs.YtmmkcfjncpcabaaDoor

namespace Go.Proofs.YtmmkcfjncpcabaaDoor
open Go.RowKit

/-- Every event's numbers are none, or those of a head. -/
def NB (l : List PE) : Prop := ∀ p ∈ l, p.nums = [] ∨ ∃ h, p.nums = HZ h
theorem NB.nil : NB [] := fun p hp => by cases hp
theorem NB.one {p : PE} (h : p.nums = [] ∨ ∃ h, p.nums = HZ h) : NB [p] := fun q hq => by
  rw [List.mem_singleton] at hq
  subst hq
  exact h
theorem NB.app {l m : List PE} (h : NB l) (k : NB m) : NB (l ++ m) := fun p hp => (List.mem_append.1 hp).elim (h p) (k p)
theorem nb_endEsc (s : PM) (x : Int) : NB (endEscP s x).2 := by
  unfold endEscP
  repeat' split
  · exact NB.nil
  · exact NB.nil
  · exact NB.one (.inl rfl)
theorem nb_endSeq (s : PM) (x : Int) : NB (endSeqP s x).2 := by
  unfold endSeqP
  split
  · exact NB.nil
  · exact NB.one (.inr ⟨_, rfl⟩)
theorem nb_scal : ∀ (rs : List Nat) (s : PM), NB (scalP s rs).2
  | [], _ => NB.nil
  | r :: rs, s => by
    refine NB.app ?_ (nb_scal rs _)
    unfold scal1
    repeat' split
    · exact NB.one (.inl rfl)
    · exact NB.nil
    · exact nb_endEsc _ _
    · exact NB.one (.inl rfl)
theorem nb_str (s : PM) : NB (strP s) := by
  unfold strP
  repeat' split
  · exact NB.nil
  · exact NB.one (.inl rfl)
  · exact NB.one (.inr ⟨_, rfl⟩)
  · exact NB.nil
theorem nb_take (s : PM) (x : UInt8) : NB (takeP s x).2 := by
  have he : NB (endP s).2 := nb_scal _ _
  have hx : NB [execP x.toNat] := NB.one (.inl rfl)
  have hs := nb_str (endP s).1
  have hs2 := nb_str s
  have hr : NB (restP s x.toNat).2 := nb_scal _ _
  have hb : NB (breakP s x.toNat).2 := nb_scal _ _
  have h4 := nb_endEsc s x.toNat
  have h5 := nb_endSeq s x.toNat
  have h0 := NB.nil
  unfold takeP escTakeP seqTakeP devTakeP cmdTakeP
  repeat' split
  all_goals first | exact h0 | exact hx | exact he.app hx | exact he.app hs | exact hr | exact hb | exact h4 | exact h5 | exact hs2
theorem nb_takes : ∀ (xs : List UInt8) (s : PM), NB (takesP s xs).2
  | [], _ => NB.nil
  | x :: xs, s => (nb_take s x).app (nb_takes xs _)
theorem NB.small {l : List PE} (h : NB l) (i : Nat) : ((l[i]?.getD pe0).nums).length ≤ 1000 ∧ ∀ j : Nat, (((l[i]?.getD pe0).nums)[j]?.getD []).length ≤ 1000 := by
  rcases Nat.lt_or_ge i l.length with hi | hi
  · rw [List.getElem?_eq_getElem hi]
    rcases h _ (List.getElem_mem hi) with e | ⟨t, e⟩
    · simp [e]
    · simp only [Option.getD_some]
      rw [e]
      unfold HZ
      refine ⟨by simp; omega, fun j => ?_⟩
      rw [List.getElem?_map]
      cases ((GZ t).take 32)[j]? with
      | none => simp
      | some r => simp; omega
  · rw [List.getElem?_eq_none hi]
    simp [pe0]
/-- Bytes that came in, as bytes. -/
def u8s (zs : List Nat) : List UInt8 := zs.map UInt8.ofNat
theorem RB.of_bs {w0 w : World} {D n c : Nat} {s : PM} {es : List PE} {a : PV} {A : Option Addr} {zs : List Nat} (h : MI w D s es a) (hR : BS w0 w0.heap.size A zs) (hD : w0.heap.size ≤ D) (hb : Below w0.heap.size w0 w) (hn : n ≤ c) : RB D a w A (u8s zs) := fun hne => by
  obtain ⟨b, off, e, hlt, hc⟩ := hR.2 (fun e => hne (by rw [e]; rfl))
  subst e
  refine RB.low h (by omega) hn (fun k hk => ?_) hne
  have hk' : k < zs.length := by simpa [u8s] using hk
  have hz : zs[k] < 256 := hR.1 _ (List.getElem_mem hk')
  rw [(hb.cell (p := ⟨b, off + k, none⟩) hlt).trans (hc k hk'), u8s, List.getElem?_map, List.getElem?_eq_getElem hk']
  simp [Nat.mod_eq_of_lt hz]

end Go.Proofs.YtmmkcfjncpcabaaDoor

namespace Go.Proofs.YtmmkcfjncpcabaaDoor
open Go.RowKit

/-- Two parsers at D and E, above all that came in. -/
structure CS (w0 W : World) (D E : Nat) (s t : PM) : Prop where
  p2 : P2 W D E s t
  g1 : GT W D
  g2 : GT W E
  b : Below w0.heap.size w0 W
  l1 : w0.heap.size ≤ D
  l2 : w0.heap.size ≤ E
  q1 : GH s
  q2 : GH t
theorem CS.swap {w0 W : World} {D E : Nat} {s t : PM} (h : CS w0 W D E s t) : CS w0 W E D t s := ⟨h.p2.swap, h.g2, h.g1, h.b, h.l2, h.l1, h.q2, h.q1⟩
theorem P2.lt {w : World} {D E : Nat} {s t : PM} (h : P2 w D E s t) : D < w.heap.size ∧ E < w.heap.size := by
  obtain ⟨a, b, h1, h2, _⟩ := h
  exact ⟨lt_of_block h1.blk, lt_of_block h2.blk⟩
theorem GT.past {w w' : World} {D : Nat} (h : GT w D) (hD : D < w.heap.size) (hb : Below w.heap.size w w') : GT w' D := h.below hD (hb.mono (Nat.le_of_lt hD))
theorem CS.past {w0 W W' : World} {D E : Nat} {s t : PM} (h : CS w0 W D E s t) (hb : Below W.heap.size W W') : CS w0 W' D E s t :=
  ⟨h.p2.past hb, h.g1.past h.p2.lt.1 hb, h.g2.past h.p2.lt.2 hb, h.b.trans (hb.mono h.b.size), h.l1, h.l2, h.q1, h.q2⟩
theorem CS.new {w0 w1 w2 w3 : World} {m : Nat} (hG : GW w0) (h01 : Below w0.heap.size w0 w1) (h1 : MI w2 w1.heap.size (newP m) [] (newA m)) (hb1 : Below w1.heap.size w1 w2) (h2 : MI w3 w2.heap.size (newP m) [] (newA m)) (hb2 : Below w2.heap.size w2 w3) (hm : m ≤ 65536) : CS w0 w3 w1.heap.size w2.heap.size (newP m) (newP m) := by
  have hlt := lt_of_block h1.blk
  have h02 : Below w0.heap.size w0 w2 := h01.trans (hb1.mono h01.size)
  have h03 : Below w0.heap.size w0 w3 := h02.trans (hb2.mono h02.size)
  have hz : w0.heap.size ≤ w1.heap.size := h01.size
  have hz2 : w1.heap.size ≤ w2.heap.size := hb1.size
  have gt : ∀ D, w0.heap.size ≤ D → GT w3 D := fun D hD => ⟨(hG.below h03).ut, Nat.lt_of_lt_of_le hG.ut.2.1 hD, Nat.lt_of_lt_of_le hG.ut.2.2 hD, (hG.below h03).ml, hG.ml.elim fun _ hm => Nat.lt_of_lt_of_le (block_lt_of_cell hm) hD⟩
  refine ⟨⟨newA m, newA m, (h1.past hb2).1, h2, fun i hi hj => ?_⟩, gt _ hz, gt _ (by omega), h03, hz, by omega, GH.new hm, GH.new hm⟩
  have e1 : i = w1.heap.size := by
    rcases hi with e | e | e | e | e
    · exact e
    all_goals cases e
  have e2 : i = w2.heap.size := by
    rcases hj with e | e | e | e | e
    · exact e
    all_goals cases e
  omega
/-- The same, and the events that the first has told. -/
structure CSV (w0 W : World) (D E : Nat) (s t : PM) (v : Value) (es : List PE) : Prop where
  pv : P2V W D E s t v es
  cs : CS w0 W D E s t
  nb : NB es
theorem CSV.past {w0 W W' : World} {D E : Nat} {s t : PM} {v : Value} {es : List PE} (h : CSV w0 W D E s t v es) (hb : Below W.heap.size W W') : CSV w0 W' D E s t v es := ⟨h.pv.past hb, h.cs.past hb, h.nb⟩
theorem CS.after {w0 W W' : World} {D E : Nat} {s t s' : PM} {v : Value} {es : List PE} (h : CS w0 W D E s t) (hv : P2V W' D E s' t v es) (hb : Below D W W') (hE : D < E ∨ GT W' E) (hq : GH s') (hn : NB es) : CSV w0 W' D E s' t v es := by
  have h1 := h.p2.lt.1
  have g1 : GT W' D := h.g1.below h1 hb
  have b0 : Below w0.heap.size W W' := hb.mono h.l1
  have g2 : GT W' E := by
    rcases hE with hE | hE
    · exact ⟨g1.ut, Nat.lt_trans g1.d1 hE, Nat.lt_trans g1.d2 hE, g1.ml, Nat.lt_trans g1.d3 hE⟩
    · exact hE
  exact ⟨hv, ⟨hv.p2, g1, g2, h.b.trans b0, h.l1, h.l2, hq, h.q2⟩, hn⟩
theorem gt_both {W W' : World} {D E : Nat} (h1 : GT W D) (h2 : GT W E) (hD : D < W.heap.size) (hb : Below D W W') : GT W' E :=
  ⟨(h1.below hD hb).ut, h2.d1, h2.d2, (h1.below hD hb).ml, h2.d3⟩
theorem all_cs {w0 W : World} {D E : Nat} {s t : PM} (h : CS w0 W D E s t) (A : Option Addr) (zs : List Nat) (n c : Nat) (hl : n = zs.length) (hc : n ≤ c) (hn : n ≤ 10000) (hR : BS w0 w0.heap.size A zs) : Calls Tryd.prog 14 #[.pointer (some ⟨D, 0, none⟩), .slice A n c] W (fun e w' => ∃ v, e = .returned v ∧ CSV w0 w' D E (takesP s (u8s zs)).1 t v (takesP s (u8s zs)).2) :=
  (h.p2.call (fun _ ha => all_mi ha h.g1 h.q1.gq A (u8s zs) c n (by rw [hl]; simp [u8s]) (RB.of_bs ha hR h.l1 h.b hc) hn)).mono fun _ _ ⟨v, he, hv, hb⟩ => ⟨v, he, h.after hv hb (.inr (gt_both h.g1 h.g2 h.p2.lt.1 hb)) (h.q1.takes _) (nb_takes _ _)⟩
theorem step_cs {w0 W : World} {D E : Nat} {s t : PM} (h : CS w0 W D E s t) (x : UInt8) : Calls Tryd.prog 17 #[.pointer (some ⟨D, 0, none⟩), .int .u8 x.toNat] W (fun e w' => ∃ v, e = .returned v ∧ CSV w0 w' D E (takeP s x).1 t v (takeP s x).2) :=
  (h.p2.call (fun _ ha => step1_mi ha h.g1 h.q1.gq x)).mono fun _ _ ⟨v, he, hv, hb⟩ => ⟨v, he, h.after hv hb (.inr (gt_both h.g1 h.g2 h.p2.lt.1 hb)) (h.q1.take x) (nb_take _ _)⟩
theorem state_cs {w0 W : World} {D E : Nat} {s t : PM} (h : CS w0 W D E s t) : Calls Tryd.prog 15 #[.pointer (some ⟨D, 0, none⟩)] W (fun e w' => e = .returned (.int .i64 s.state) ∧ Below W.heap.size W w') := by
  obtain ⟨_, _, h1, _, _⟩ := h.p2
  exact state_mi h1
theorem held_cs {w0 W : World} {D E : Nat} {s t : PM} (h : CS w0 W D E s t) : Calls Tryd.prog 16 #[.pointer (some ⟨D, 0, none⟩)] W (fun e w' => e = .returned (.int .i64 (heldP s : Nat)) ∧ Below W.heap.size W w') := by
  obtain ⟨_, _, h1, _, _⟩ := h.p2
  exact held_gh h1 h.q1
/-- Behind that the second takes bytes: both rows of events read. -/
theorem all2_cs {w0 W : World} {D E : Nat} {s t : PM} {v : Value} {es : List PE} (h : CSV w0 W D E s t v es) (A : Option Addr) (zs : List Nat) (n c : Nat) (hl : n = zs.length) (hc : n ≤ c) (hn : n ≤ 10000) (hR : BS w0 w0.heap.size A zs) : Calls Tryd.prog 14 #[.pointer (some ⟨E, 0, none⟩), .slice A n c] W (fun e w' => ∃ v', e = .returned v' ∧ CS w0 w' D E s (takesP t (u8s zs)).1 ∧ (∃ A c, v = .slice A es.length c ∧ EvS w' A es) ∧ ∃ A c, v' = .slice A (takesP t (u8s zs)).2.length c ∧ EvS w' A (takesP t (u8s zs)).2) :=
  (h.pv.other (fun _ hb => all_mi hb h.cs.g2 h.cs.q2.gq A (u8s zs) c n (by rw [hl]; simp [u8s]) (RB.of_bs hb hR h.cs.l2 h.cs.b hc) hn)).mono fun _ w' ⟨v', he, hp, h1, h2, hb⟩ => ⟨v', he, ⟨hp, gt_both h.cs.g2 h.cs.g1 h.cs.p2.lt.2 hb, h.cs.g2.below h.cs.p2.lt.2 hb, h.cs.b.trans (hb.mono h.cs.l2), h.cs.l1, h.cs.l2, h.cs.q1, h.cs.q2.takes _⟩, h1, h2⟩

end Go.Proofs.YtmmkcfjncpcabaaDoor

namespace Go.Proofs.YtmmkcfjncpcabaaDoor
open Go.RowKit

/-- What waits is little. -/
def PSB (s : PM) : Prop := s.ps.length ≤ 3 ∧ ∀ z ∈ s.ps, z < 256
theorem PSB.of {s t : PM} (h : PSB s) (e : t.ps = s.ps) : PSB t := by unfold PSB at h ⊢; rw [e]; exact h
theorem PSB.nil {t : PM} (e : t.ps = []) : PSB t := by unfold PSB; rw [e]; exact ⟨Nat.zero_le _, fun z hz => by cases hz⟩
theorem PSB.rest {s : PM} (h : PSB s) (x : UInt8) : PSB (restP s x.toNat).1 := by
  have h8 : ∀ z ∈ s.ps ++ [x.toNat], z < 256 := fun z hz => by
    rcases List.mem_append.1 hz with hz | hz
    · exact h.2 z hz
    · have := x.toNat_lt
      simp at hz
      omega
  obtain ⟨_, h2⟩ := rd_sum _ (s.ps ++ [x.toNat]) (Nat.le_refl _) h8
  have e : (restP s x.toNat).1.ps = (wait1 s x.toNat).ps := (scalP_ps _ _).1
  refine PSB.of (s := wait1 s x.toNat) ⟨?_, fun z hz => h8 z (List.mem_of_mem_drop hz)⟩ e
  show ((s.ps ++ [x.toNat]).drop (sumB (rdL (s.ps ++ [x.toNat])))).length ≤ 3
  rw [List.length_drop]
  omega
theorem PSB.take {s : PM} (h : PSB s) (x : UInt8) : PSB (takeP s x).1 := by
  have he : (endP s).1.ps = [] := (scalP_ps _ _).1
  have hr := h.rest x
  have hb : PSB (breakP s x.toNat).1 := PSB.rest (s := s.at 0) h x
  have h1 : (betweenP s x).ps = s.ps := by
    unfold betweenP
    repeat' split
    all_goals rfl
  have h2 : (parP s x).ps = s.ps := by
    unfold parP
    repeat' split
    all_goals first | rfl | exact h1
  have h3 : (payP s x).ps = s.ps := by
    unfold payP
    repeat' split
    all_goals rfl
  have h4 : (endEscP s x.toNat).1.ps = s.ps := by
    unfold endEscP
    repeat' split
    all_goals rfl
  have h5 : (endSeqP s x.toNat).1.ps = s.ps := by
    unfold endSeqP
    repeat' split
    all_goals rfl
  unfold takeP escTakeP seqTakeP devTakeP cmdTakeP
  repeat' split
  all_goals first | exact h | exact hr | exact hb | exact h.of h1 | exact h.of h2 | exact h.of h3 | exact h.of h4 | exact h.of h5 | exact PSB.nil he | exact h.of rfl
theorem takesP_len : ∀ (xs : List UInt8) (s : PM), PSB s → (takesP s xs).2.length ≤ 5 * xs.length
  | [], _, _ => Nat.zero_le _
  | x :: xs, s, h => by
    have h1 := takeP_len h.1 x
    have h2 := takesP_len xs _ (h.take x)
    simp only [takesP, List.length_append, List.length_cons]
    omega
theorem cancel_new' (s : PM) (x : UInt8) (h : x.toNat = 24 ∨ x.toNat = 26) : (takeP s x).1 = newP s.most ∧ ∃ l, l.length ≤ 1 ∧ (takeP s x).2 = l ++ [execP x.toNat] := by
  refine ⟨(cancel_new s x h).1, (endP s).2, endP_len s, ?_⟩
  unfold takeP
  rw [if_pos h]
/-- The last of the events that were told, beside a literal of it. -/
theorem last_same {w W : World} {D E : Nat} {s t : PM} {b c : Nat} {l : List PE} {z : Int} (q : Nat) (hq : l.length = q) (h : CSV w W D E s t (.slice (some ⟨b, 0, none⟩) (q + 1) c) (l ++ [execP z])) (c' : Nat) : Calls Tryd.prog 13 #[.slice (some ⟨b, q * 8, none⟩) 1 c', .slice (some ⟨W.heap.size, 0, none⟩) 1 1] (W.alloc (.cells #[.int .i64 1, .int .i32 0, .int .u8 z, .int .u8 0, .slice none 0 0, .string ⟨#[]⟩, .string ⟨#[]⟩, .bool false] 41)) fun e w' => e = .returned (.bool true) ∧ Below W.heap.size W w' := by
  subst hq
  have ha : Below W.heap.size W (W.alloc (.cells #[.int .i64 1, .int .i32 0, .int .u8 z, .int .u8 0, .slice none 0 0, .string ⟨#[]⟩, .string ⟨#[]⟩, .bool false] 41)) := (Below.refl _ _).alloc (Nat.le_refl _) _
  obtain ⟨A, c2, e2, hev⟩ := h.pv.evs
  injection e2 with e3 _ _
  subst e3
  have h1 : EvS W (some ⟨b, l.length * 8, none⟩) [execP z] := fun _ => by
    obtain ⟨b', off, e4, hlt, hc⟩ := hev (by simp)
    injection e4 with e5
    injection e5 with e6 e7 _
    subst e6; subst e7
    refine ⟨b, l.length * 8, rfl, hlt, fun i hi => ?_⟩
    have hi0 : i = 0 := by simpa using hi
    subst hi0
    have := hc l.length (by simp)
    simpa using this
  have h2 : EvS (W.alloc (.cells #[.int .i64 1, .int .i32 0, .int .u8 z, .int .u8 0, .slice none 0 0, .string ⟨#[]⟩, .string ⟨#[]⟩, .bool false] 41)) (some ⟨W.heap.size, 0, none⟩) [execP z] := by
    refine EvS.of_cells (cs := (execE z).cells) (by simp) ⟨execE z, [], rfl, ⟨rfl, rfl, rfl, rfl, rfl, rfl, rfl, none, 0, rfl, rg_nil _⟩, rfl⟩ (fun k _ => ?_)
    rw [Nat.zero_add]
    exact (cell_of_row _ _ k _ _ _ (heap_alloc_new W _)).trans (by simp [EVal.cells, execE])
  refine (same4_any _ _ [execP z] [execP z] 1 1 c' 1 rfl rfl (by omega) _ (h1.past ha) h2 (NB.one (.inl rfl)).small).mono fun e w' hp => ⟨by rw [hp.1]; simp, ha.trans (hp.2.mono ha.size)⟩
set_option maxRecDepth 100000 in
set_option maxHeartbeats 8000000 in
theorem parseCancels_main (A B : Option Addr) (zs ys : List Nat) (n c m d h : Nat) (hn : n = zs.length) (hc : n ≤ c) (hm : m = ys.length) (hd : m ≤ d) (hh : h < 256) (hn2 : n ≤ 200) (hm2 : m ≤ 200) (w : World) (hG : GW w) (hR : BS w w.heap.size A zs) (hS : BS w w.heap.size B ys) (x : UInt8) (hx : x.toNat = 24 ∧ h % 2 = 0 ∨ x.toNat = 26 ∧ h % 2 = 1) :
    Calls Tryd.prog 7 #[.slice A n c, .slice B m d, .int .u8 h] w fun e w' => e = .returned (.bool true) ∧ Below w.heap.size w w' := by
  have HA : Hid (∀ W, Below w.heap.size w W → Calls Tryd.prog 10 #[] W fun e w' => e = .returned (.bool true) ∧ Below w.heap.size w w') := Lib.hid fun W hW => (awake_any W (hG.below hW)).mono fun _ _ hp => ⟨hp.1, hW.trans (hp.2.mono hW.size)⟩
  have HM : Hid (∀ W (z : Int), z = ((h / 2 : Nat) : Int) → Calls Tryd.prog 11 #[.int .u8 z] W fun e w' => e = .returned (.pointer (some ⟨W.heap.size, 0, none⟩)) ∧ MI w' W.heap.size (newP (h / 2 + 1)) [] (newA (h / 2 + 1)) ∧ Below W.heap.size W w') := Lib.hid fun W z hz => by rw [hz]; exact made_any (h / 2) (by omega) W
  have HN : Hid (∀ w1 w2 w3 : World, Below w.heap.size w w1 → MI w2 w1.heap.size (newP (h / 2 + 1)) [] (newA (h / 2 + 1)) → Below w1.heap.size w1 w2 → MI w3 w2.heap.size (newP (h / 2 + 1)) [] (newA (h / 2 + 1)) → Below w2.heap.size w2 w3 → CS w w3 w1.heap.size w2.heap.size (newP (h / 2 + 1)) (newP (h / 2 + 1))) := Lib.hid fun w1 w2 w3 h01 h1 hb1 h2 hb2 => CS.new hG h01 h1 hb1 h2 hb2 (by omega)
  generalize hk : h / 2 + 1 = k at *
  have H1 : Hid (∀ W D E, CS w W D E (newP k) (newP k) → Calls Tryd.prog 14 #[.pointer (some ⟨D, 0, none⟩), .slice A n c] W (fun e w' => ∃ v, e = .returned v ∧ CSV w w' D E (takesP (newP k) (u8s zs)).1 (newP k) v (takesP (newP k) (u8s zs)).2)) := Lib.hid fun W D E hcs => all_cs hcs A zs n c hn hc (by omega) hR
  have HS : Hid (∀ W D E s, s.most = k → CS w W D E s (newP k) → Calls Tryd.prog 17 #[.pointer (some ⟨D, 0, none⟩), .int .u8 x.toNat] W (fun e w' => ∃ (b c : Nat) (q : Nat) (l : List PE), e = .returned (.slice (some ⟨b, 0, none⟩) (q + 1) c) ∧ l.length = q ∧ (q = 0 ∨ q = 1) ∧ q + 1 ≤ c ∧ CSV w w' D E (newP k) (newP k) (.slice (some ⟨b, 0, none⟩) (q + 1) c) (l ++ [execP x.toNat]))) := Lib.hid fun W D E s hs hcs => (step_cs hcs x).mono fun e w' ⟨v, he, hv⟩ => by
    obtain ⟨c1, l, c3, c2⟩ := cancel_new' s x (by omega)
    rw [c1, c2, hs] at hv
    obtain ⟨_, _, A', c', cs, _, _, _, hv2, ho, _⟩ := id hv.pv
    rw [List.length_append, List.length_singleton] at hv2
    rw [hv2, List.length_append, List.length_singleton] at ho
    obtain ⟨A2, c2, e2, hA⟩ := own_form ho
    injection e2 with e3 _ _
    subst e3
    obtain ⟨g, rfl⟩ := hA (by omega)
    have hcap : l.length + 1 ≤ c' := by
      rcases ho.2 with ⟨e4, _⟩ | ⟨_, _, _, e4, _, _, e5, _⟩
      · injection e4 with e5 _ _
        cases e5
      · injection e4 with _ _ e6
        omega
    subst hv2
    exact ⟨g, c', l.length, l, he, rfl, by omega, hcap, hv⟩
  have HK : Hid ((takesP (newP k) (u8s zs)).1.most = k) := Lib.hid (takesP_most _ _)
  have HT : Hid (∀ W D E, CS w W D E (newP k) (newP k) → Calls Tryd.prog 15 #[.pointer (some ⟨D, 0, none⟩)] W (fun e w' => e = .returned (.int .i64 0) ∧ CS w w' D E (newP k) (newP k))) := Lib.hid fun W D E hcs => (state_cs hcs).mono fun _ _ hp => ⟨hp.1, hcs.past hp.2⟩
  have HH : Hid (∀ W D E, CS w W D E (newP k) (newP k) → Calls Tryd.prog 16 #[.pointer (some ⟨D, 0, none⟩)] W (fun e w' => e = .returned (.int .i64 0) ∧ CS w w' D E (newP k) (newP k))) := Lib.hid fun W D E hcs => (held_cs hcs).mono fun _ _ hp => ⟨hp.1, hcs.past hp.2⟩
  obtain ⟨T, hT⟩ : ∃ T, T = (takesP (newP k) (u8s ys)).1 := ⟨_, rfl⟩
  obtain ⟨es, hes⟩ : ∃ es, es = (takesP (newP k) (u8s ys)).2 := ⟨_, rfl⟩
  have HX : Hid (∀ W D E, CS w W D E (newP k) (newP k) → Calls Tryd.prog 14 #[.pointer (some ⟨D, 0, none⟩), .slice B m d] W (fun e w' => ∃ A c, e = .returned (.slice A es.length c) ∧ CSV w w' D E T (newP k) (.slice A es.length c) es)) := Lib.hid fun W D E hcs => (all_cs hcs B ys m d hm hd (by omega) hS).mono fun _ _ ⟨v, h1, h2⟩ => by
    rw [← hT, ← hes] at h2
    obtain ⟨A, c, hv, _⟩ := h2.pv.evs
    subst hv
    exact ⟨A, c, h1, h2⟩
  have HY : Hid (∀ W D E A c, CSV w W D E T (newP k) (.slice A es.length c) es → Calls Tryd.prog 14 #[.pointer (some ⟨E, 0, none⟩), .slice B m d] W (fun e w' => ∃ A' c', e = .returned (.slice A' es.length c') ∧ CS w w' D E T T ∧ EvS w' A es ∧ EvS w' A' es)) := Lib.hid fun W D E A c hcs => (all2_cs hcs B ys m d hm hd (by omega) hS).mono fun _ _ ⟨v, h1, h2, ⟨A1, c1, e1, h3⟩, A2, c2, e2, h4⟩ => by
    rw [← hT] at h2
    rw [← hes] at e2 h4
    injection e1 with e3 _ _
    subst e3; subst e2
    exact ⟨A2, c2, h1, h2, h3, h4⟩
  have HZ : Hid (∀ W A A' c c', EvS W A es → EvS W A' es → Calls Tryd.prog 13 #[.slice A es.length c, .slice A' es.length c'] W (fun e w' => e = .returned (.bool true) ∧ Below W.heap.size W w')) := Lib.hid fun W A A' c c' h1 h2 => (same4_any A A' es es es.length es.length c c' rfl rfl (by
      have := takesP_len (u8s ys) (newP k) (PSB.nil rfl)
      rw [← hes, u8s, List.length_map] at this
      omega) W h1 h2 (by rw [hes]; exact (nb_takes _ _).small)).mono fun _ _ hp => ⟨by rw [hp.1]; simp, hp.2⟩
  have HU : Hid (∀ W D E, CS w W D E T T → Calls Tryd.prog 15 #[.pointer (some ⟨D, 0, none⟩)] W (fun e w' => e = .returned (.int .i64 T.state) ∧ CS w w' D E T T)) := Lib.hid fun W D E hcs => (state_cs hcs).mono fun _ _ hp => ⟨hp.1, hcs.past hp.2⟩
  have HW : Hid (∀ W D E, CS w W D E T T → Calls Tryd.prog 15 #[.pointer (some ⟨E, 0, none⟩)] W (fun e w' => e = .returned (.int .i64 T.state) ∧ CS w w' D E T T)) := Lib.hid fun W D E hcs => (state_cs hcs.swap).mono fun _ _ hp => ⟨hp.1, hcs.past hp.2⟩
  clear hT hes
  generalize es.length = N at *
  generalize T.state = st at *
  have n1 : ¬ (200 : Int) < n := by omega
  have n2 : ¬ (200 : Int) < m := by omega
  have HL := Lib.hid hn
  have HL2 := Lib.hid hm
  clear hn hm hR hS hG
  rcases hx with ⟨hx, he⟩ | ⟨hx, he⟩
  · have hxi : (x.toNat : Int) = 24 := by omega
    rw [hxi] at HS
    have r1 : (((h : Int) % 2) == 1) = false := by simp; omega
    go_enter Tryd.func7, Tryd.ntmps7
    go_wp2_with (first
      | (go_at_call 10; (with_reducible refine (HA.out _ (Below.refl _ _)).mono ?_); rintro e w1 ⟨rfl, hb1⟩; have HB1 := Lib.hid hb1; clear hb1)
      | (go_at_call 11; (with_reducible refine (HM.out w1 _ (by omega)).mono ?_); rintro e w2 ⟨rfl, hm2', hb2⟩; have HM2 := Lib.hid hm2'; have HB2 := Lib.hid hb2; clear hm2' hb2)
      | (go_at_call 11; (with_reducible refine (HM.out w2 _ (by omega)).mono ?_); rintro e w3 ⟨rfl, hm3', hb3⟩; have HC3 := Lib.hid (HN.out _ _ _ HB1.out HM2.out HB2.out hm3' hb3); clear hm3' hb3)
      | (go_at_call 14; (with_reducible refine (H1.out _ _ _ HC3.out).mono ?_); rintro e w4 ⟨v4, rfl, hp4⟩; have HC4 := Lib.hid hp4.cs; clear hp4)
      | (go_at_call 17; (with_reducible refine (HS.out _ _ _ _ HK.out HC4.out).mono ?_); rintro e w5 ⟨b5, c5, q5, l5, rfl, hl5, rfl | rfl, hc5, hp5⟩ <;> (have HV5 := Lib.hid hp5; have HL5 := Lib.hid hl5; clear hp5 hl5)))
    all_goals go_wp2_with (first
      | (go_at_call 13; (with_reducible refine (last_same _ HL5.out HV5.out _).mono ?_); rintro e w6 ⟨rfl, hb6⟩; have HC6 := Lib.hid (HV5.out.cs.past hb6); clear hb6))
    all_goals go_wp2_with (first
      | (go_at_call 15; (with_reducible refine (HT.out _ _ _ HC6.out).mono ?_); rintro e w7 ⟨rfl, hp7⟩; have HC7 := Lib.hid hp7; clear hp7)
      | (go_at_call 16; (with_reducible refine (HH.out _ _ _ HC7.out).mono ?_); rintro e w8 ⟨rfl, hp8⟩; have HC8 := Lib.hid hp8; clear hp8)
      | (go_at_call 14; (with_reducible refine (HX.out _ _ _ HC8.out).mono ?_); rintro e w9 ⟨A9, c9, rfl, hp9⟩; have HV9 := Lib.hid hp9; clear hp9)
      | (go_at_call 14; (with_reducible refine (HY.out _ _ _ _ _ HV9.out).mono ?_); rintro e w10 ⟨A10, c10, rfl, hp10, hv9, hv10⟩; have HC10 := Lib.hid hp10; have HE9 := Lib.hid hv9; have HE10 := Lib.hid hv10; clear hp10 hv9 hv10)
      | (go_at_call 13; (with_reducible refine (HZ.out _ _ _ _ _ HE9.out HE10.out).mono ?_); rintro e w11 ⟨rfl, hb11⟩; have HC11 := Lib.hid (HC10.out.past hb11); clear hb11)
      | (go_at_call 15; (with_reducible refine (HU.out _ _ _ HC11.out).mono ?_); rintro e w12 ⟨rfl, hp12⟩; have HC12 := Lib.hid hp12; clear hp12)
      | (go_at_call 15; (with_reducible refine (HW.out _ _ _ HC12.out).mono ?_); rintro e w13 ⟨rfl, hp13⟩; have HC13 := Lib.hid hp13; clear hp13))
    all_goals
      go_ret
      exact ⟨rfl, HC13.out.b⟩
  · have hxi : (x.toNat : Int) = 26 := by omega
    rw [hxi] at HS
    have r1 : (((h : Int) % 2) == 1) = true := by simp; omega
    go_enter Tryd.func7, Tryd.ntmps7
    go_wp2_with (first
      | (go_at_call 10; (with_reducible refine (HA.out _ (Below.refl _ _)).mono ?_); rintro e w1 ⟨rfl, hb1⟩; have HB1 := Lib.hid hb1; clear hb1)
      | (go_at_call 11; (with_reducible refine (HM.out w1 _ (by omega)).mono ?_); rintro e w2 ⟨rfl, hm2', hb2⟩; have HM2 := Lib.hid hm2'; have HB2 := Lib.hid hb2; clear hm2' hb2)
      | (go_at_call 11; (with_reducible refine (HM.out w2 _ (by omega)).mono ?_); rintro e w3 ⟨rfl, hm3', hb3⟩; have HC3 := Lib.hid (HN.out _ _ _ HB1.out HM2.out HB2.out hm3' hb3); clear hm3' hb3)
      | (go_at_call 14; (with_reducible refine (H1.out _ _ _ HC3.out).mono ?_); rintro e w4 ⟨v4, rfl, hp4⟩; have HC4 := Lib.hid hp4.cs; clear hp4)
      | (go_at_call 17; (with_reducible refine (HS.out _ _ _ _ HK.out HC4.out).mono ?_); rintro e w5 ⟨b5, c5, q5, l5, rfl, hl5, rfl | rfl, hc5, hp5⟩ <;> (have HV5 := Lib.hid hp5; have HL5 := Lib.hid hl5; clear hp5 hl5)))
    all_goals go_wp2_with (first
      | (go_at_call 13; (with_reducible refine (last_same _ HL5.out HV5.out _).mono ?_); rintro e w6 ⟨rfl, hb6⟩; have HC6 := Lib.hid (HV5.out.cs.past hb6); clear hb6))
    all_goals go_wp2_with (first
      | (go_at_call 15; (with_reducible refine (HT.out _ _ _ HC6.out).mono ?_); rintro e w7 ⟨rfl, hp7⟩; have HC7 := Lib.hid hp7; clear hp7)
      | (go_at_call 16; (with_reducible refine (HH.out _ _ _ HC7.out).mono ?_); rintro e w8 ⟨rfl, hp8⟩; have HC8 := Lib.hid hp8; clear hp8)
      | (go_at_call 14; (with_reducible refine (HX.out _ _ _ HC8.out).mono ?_); rintro e w9 ⟨A9, c9, rfl, hp9⟩; have HV9 := Lib.hid hp9; clear hp9)
      | (go_at_call 14; (with_reducible refine (HY.out _ _ _ _ _ HV9.out).mono ?_); rintro e w10 ⟨A10, c10, rfl, hp10, hv9, hv10⟩; have HC10 := Lib.hid hp10; have HE9 := Lib.hid hv9; have HE10 := Lib.hid hv10; clear hp10 hv9 hv10)
      | (go_at_call 13; (with_reducible refine (HZ.out _ _ _ _ _ HE9.out HE10.out).mono ?_); rintro e w11 ⟨rfl, hb11⟩; have HC11 := Lib.hid (HC10.out.past hb11); clear hb11)
      | (go_at_call 15; (with_reducible refine (HU.out _ _ _ HC11.out).mono ?_); rintro e w12 ⟨rfl, hp12⟩; have HC12 := Lib.hid hp12; clear hp12)
      | (go_at_call 15; (with_reducible refine (HW.out _ _ _ HC12.out).mono ?_); rintro e w13 ⟨rfl, hp13⟩; have HC13 := Lib.hid hp13; clear hp13))
    all_goals
      go_ret
      exact ⟨rfl, HC13.out.b⟩
set_option maxRecDepth 100000 in
set_option maxHeartbeats 8000000 in
theorem parseCancels_law (A B : Option Addr) (zs ys : List Nat) (n c m d h : Nat) (hn : n = zs.length) (hc : n ≤ c) (hm : m = ys.length) (hd : m ≤ d) (hh : h < 256) (w : World) (hG : GW w) (hR : BS w w.heap.size A zs) (hS : BS w w.heap.size B ys) :
    Calls Tryd.prog 7 #[.slice A n c, .slice B m d, .int .u8 h] w fun e w' => e = .returned (.bool true) ∧ Below w.heap.size w w' := by
  by_cases h1 : n ≤ 200
  · by_cases h2 : m ≤ 200
    · rcases Nat.mod_two_eq_zero_or_one h with h0 | h0
      · exact parseCancels_main A B zs ys n c m d h hn hc hm hd hh h1 h2 w hG hR hS 24 (.inl ⟨rfl, h0⟩)
      · exact parseCancels_main A B zs ys n c m d h hn hc hm hd hh h1 h2 w hG hR hS 26 (.inr ⟨rfl, h0⟩)
    · have HA := Lib.hid (awake_any w hG)
      have n1 : ¬ (200 : Int) < n := by omega
      have n2 : (200 : Int) < m := by omega
      clear hn hm hR hS hG
      go_enter Tryd.func7, Tryd.ntmps7
      go_wp2_with (go_at_call 10; (with_reducible refine HA.out.mono ?_); rintro e w1 ⟨rfl, hb1⟩; have HB1 := Lib.hid hb1; clear hb1)
      go_ret
      exact ⟨rfl, HB1.out⟩
  · have HA := Lib.hid (awake_any w hG)
    have n1 : (200 : Int) < n := by omega
    clear hn hm hR hS hG
    go_enter Tryd.func7, Tryd.ntmps7
    go_wp2_with (go_at_call 10; (with_reducible refine HA.out.mono ?_); rintro e w1 ⟨rfl, hb1⟩; have HB1 := Lib.hid hb1; clear hb1)
    go_ret
    exact ⟨rfl, HB1.out⟩

theorem parseCancels_lawI (A B : Option Addr) (zs ys : List Nat) (n c m d : Nat) (h : Int) (hn : n = zs.length) (hc : n ≤ c) (hm : m = ys.length) (hd : m ≤ d) (h0 : 0 ≤ h) (hh : h ≤ 255) (w : World) (hG : GW w) (hR : BS w w.heap.size A zs) (hS : BS w w.heap.size B ys) :
    Calls Tryd.prog 7 #[.slice A n c, .slice B m d, .int .u8 h] w fun e w' => e = .returned (.bool true) ∧ Below w.heap.size w w' := by
  obtain ⟨k, rfl⟩ : ∃ k : Nat, h = k := ⟨h.toNat, by omega⟩
  exact parseCancels_law A B zs ys n c m d k hn hc hm hd (by omega) w hG hR hS

end Go.Proofs.YtmmkcfjncpcabaaDoor

namespace Go.Proofs.YtmmkcfjncpcabaaDoor
open Go.RowKit

theorem wpList_append_lotE {P : Program} (w : World) {ops : Array Oper} {rest : List Oper} {o : Oper} {a : Act} {Q : Exit → Act → World → Prop} (hgd : o.guard = none) (s x : Operand) (t : TypeId)
    (ho : o.op = .call { callee := .builtin .append, args := #[s, x], argTypes := #[t, t] })
    (base : Nat) (e : TypeId) (i : TypeInfo) (z : Value) (size bytes : Nat) (ht : P.underlying t = some (.slice e)) (hi : P.info? e = some i) (hz : i.zero = some z)
    (hsize : i.size = size) (hby : i.bytes = bytes) (hzs : z.cells.size = size) (hsz : 0 < size)
    (v : Value) (n : Nat) (xs : List Value) (hs : a.eval s = v) (hown : w.ownsRow base e size v n xs)
    (A : Option Addr) (m c : Nat) (news : List Value) (hx : a.eval x = .slice A m c) (hA : A = none → m = 0 ∧ c = 0) (hl : news.length = m * size) (hnews : ∀ ad, A = some ad → ∀ j u, news[j]? = some u → w.cell? (ad.add j) = some u) (h1 : ∀ u ∈ news, u.oneCell' = true)
    (h63 : n + m ≤ maxLen) (hbytes : (n + m) * bytes ≤ 140737488355328) (hbase : base ≤ w.heap.size)
    (h : ∀ v' w', w'.ownsRow base e size v' (n + m) (xs ++ news) → w.grownBy w' v.ownBlock → (v'.ownBlock = v.ownBlock ∨ v'.ownBlock = some w.heap.size) → wpList P ops Q rest (a.put o.dst v') w') : wpList P ops Q (o :: rest) a w := by
  cases A with
  | none =>
    obtain ⟨rfl, rfl⟩ := hA rfl
    have hn : news = [] := List.length_eq_zero_iff.1 (by rw [hl]; simp)
    subst hn
    exact wpList_append_own_none hgd s x t ho base e i size ht hi v n xs hs hown hx (h v w (by rw [Nat.add_zero, List.append_nil]; exact hown) ⟨rfl, rfl, rfl, Nat.le_refl _, fun _ _ _ => rfl⟩ (.inl rfl))
  | some ad => exact wpList_append_own_at w hgd s x t ho base e i z size bytes ht hi hz hsize hby hzs hsz v n xs hs hown ad m c news hx hl (hnews ad rfl) h1 h63 hbytes hbase (fun v' w' h2 h3 _ h5 => h v' w' h2 h3 h5)
theorem own_formE {w : World} {base : Nat} {e : TypeId} {size : Nat} {v : Value} {k : Nat} {xs : List Value} (h : w.ownsRow base e size v k xs) :
    ∃ A c, v = .slice A k c ∧ (A = none → k = 0 ∧ c = 0) ∧ (∀ ad, A = some ad → ∃ g, ad = ⟨g, 0, none⟩) := by
  rcases h.2 with ⟨rfl, rfl⟩ | ⟨g, cap, cur, rfl, _⟩
  · exact ⟨none, 0, rfl, (fun _ => ⟨rfl, rfl⟩), (fun _ e => by cases e)⟩
  · exact ⟨_, cap, rfl, (fun e => by cases e), (fun ad e => ⟨g, (Option.some.inj e).symm⟩)⟩
theorem own_newsE {w : World} {base k c z : Nat} {e : TypeId} {A : Option Addr} {xs : List Value} (h : w.ownsRow base e z (.slice A k c) k xs) : ∀ ad, A = some ad → ∀ (j : Nat) (u : Value), xs[j]? = some u → w.cell? (ad.add j) = some u := fun ad hA j u hu => by
  obtain ⟨A', c', e', _, hg⟩ := own_formE h
  injection e' with e1 _ _
  subst e1
  obtain ⟨g, rfl⟩ := hg ad hA
  subst hA
  have hl : xs.length = k * z := h.1
  have hj : j < xs.length := (List.getElem?_eq_some_iff.1 hu).1
  rw [show (⟨g, 0, none⟩ : Addr).add j = ⟨g, 0 + j, none⟩ by unfold Addr.add; split <;> simp_all, Nat.zero_add, h.cellAt j (by omega), hu]
theorem EvL.app {w : World} : ∀ (ps qs : List PE) (cs ds : List Value), EvL w ps cs → EvL w qs ds → EvL w (ps ++ qs) (cs ++ ds)
  | [], _, cs, _, h, k => by
    have h : cs = [] := h
    subst h
    exact k
  | _ :: ps, qs, _, ds, ⟨e, cs', h1, h2, h3⟩, k => ⟨e, cs' ++ ds, by rw [h1, List.append_assoc], h2, EvL.app ps qs cs' ds h3 k⟩
theorem EvL.one {w : World} : ∀ (ps : List PE) (cs : List Value), EvL w ps cs → ∀ u ∈ cs, u.oneCell' = true
  | [], cs, h, u, hu => by
    have h : cs = [] := h
    subst h
    cases hu
  | _ :: ps, _, ⟨e, cs', h1, h2, h3⟩, u, hu => by
    subst h1
    rcases List.mem_append.1 hu with hu | hu
    · obtain ⟨_, _, _, _, _, _, _, A, c, h8, _⟩ := h2
      exact one_cells e (by rw [h8]; rfl) u hu
    · exact EvL.one ps cs' h3 u hu
/-- The first is called again: what was gathered stays, and lies apart from what is told now. -/
theorem P2V.again {w : World} {D E : Nat} {s t s' : PM} {v : Value} {es es' : List PE} {f : FuncId} {args : Array Value} (h : P2V w D E s t v es)
    (hc : ∀ a, MI w D s [] a → Calls Tryd.prog f args w fun e w' => ∃ v, e = .returned v ∧ AP D s' es' a w v w') :
    Calls Tryd.prog f args w fun e w' => ∃ A c cs, e = .returned (.slice A es'.length c) ∧ P2V w' D E s' t v es ∧ w'.ownsRow (D + 1) 41 8 (.slice A es'.length c) es'.length cs ∧ EvL w' es' cs ∧ Below D w w' := by
  obtain ⟨a, b, A, c, csg, h1, h2, h3, hv, ho, hl, hg⟩ := h
  refine (hc a h1).mono fun e w' ⟨v', he, cs', a', A', c', hv', hm, hf, ho', hl', hn, hg'⟩ => ?_
  subst hv'
  refine ⟨A', c', cs', he, ⟨a', b, A, c, csg, hm, h2.other hf.kb h3, fun i hi hj => (hf.mu i hi).elim (fun hi => h3 i hi hj) (fun hs => by have := (h2.low hj).2; omega), hv, own_keeps ho hf.kb (fun g e => (hg g e).1), EvL.kept (h1.nt hf.kb) _ _ hl, fun g e => ⟨fun hi => (hf.mu g hi).elim (hg g e).1 (fun hs => by have := (own_lt' ho e).2; omega), (hg g e).2⟩⟩, ho', hl', hf.below h1⟩
/-- What is told is put behind what was gathered. -/
theorem P2V.append {w w2 : World} {D E : Nat} {s t : PM} {v v2 : Value} {es es' : List PE} {cs ds : List Value} (h : P2V w D E s t v es) (hg2 : w.grownBy w2 v.ownBlock) (hb2 : v2.ownBlock = v.ownBlock ∨ v2.ownBlock = some w.heap.size)
    (ho : w.ownsRow (D + 1) 41 8 v es.length cs) (hl : EvL w es cs) (hl' : EvL w es' ds) (ho2 : w2.ownsRow (D + 1) 41 8 v2 (es ++ es').length (cs ++ ds)) : P2V w2 D E s t v2 (es ++ es') := by
  obtain ⟨a, b, A, c, csg, h1, h2, h3, hv, _, _, hg⟩ := h
  have hkb : KB (fun i => some i = v.ownBlock) w w2 := ⟨hg2.os, hg2.tape, hg2.output, hg2.size, fun i hi hn => hg2.block i hi hn⟩
  have hnt : NT w w2 := fun k cur hk => hg2.block k (by rcases hk with hk | hk <;> exact lt_of_block hk) (fun e => by
    obtain ⟨cu, hc⟩ := own_type ho e.symm
    rcases hk with hk | hk <;> (rw [hc] at hk; cases hk))
  obtain ⟨A2, c2, hv2, _⟩ := own_formE ho2
  refine ⟨a, b, A2, c2, _, h1.other hkb (fun i hi => (hg i hi).1), h2.other hkb (fun i hi => (hg i hi).2), h3, hv2, ho2, EvL.app _ _ _ _ (EvL.kept hnt _ _ hl) (EvL.kept hnt _ _ hl'), fun g e => ?_⟩
  rcases hb2 with hb2 | hb2
  · exact hg g (e.trans hb2)
  · have hgz : g = w.heap.size := Option.some.inj (e.trans hb2)
    exact ⟨fun hi => by have := (h1.low hi).2; omega, fun hi => by have := (h2.low hi).2; omega⟩
theorem P2.nothing {w : World} {D E : Nat} {s t : PM} (h : P2 w D E s t) : P2V w D E s t (.slice none 0 0) [] := by
  obtain ⟨a, b, h1, h2, h3⟩ := h
  exact ⟨a, b, none, 0, [], h1, h2, h3, rfl, World.ownsRow_nil _ _ _ _, rfl, fun g e => by cases e⟩
theorem CS.nothing {w0 W : World} {D E : Nat} {s t : PM} (h : CS w0 W D E s t) : CSV w0 W D E s t (.slice none 0 0) [] := ⟨h.p2.nothing, h, NB.nil⟩
theorem CSV.slice {w0 W : World} {D E : Nat} {s t : PM} {v : Value} {es : List PE} (h : CSV w0 W D E s t v es) : ∃ A c, v = .slice A es.length c := by
  obtain ⟨a, b, A, c, cs, h1, h2, h3, hv, _⟩ := h.pv
  exact ⟨A, c, hv⟩
/-- All of the first, beside what was gathered: a row of its own to be put behind it. -/
def Told (w0 W : World) (D E : Nat) (s t : PM) (vg : Value) (got : List PE) (A : Option Addr) (es : List PE) (c : Nat) : Prop :=
  CSV w0 W D E s t vg got ∧ NB es ∧ ∃ cs, W.ownsRow (D + 1) 41 8 (.slice A es.length c) es.length cs ∧ EvL W es cs
theorem again_cs {w0 W : World} {D E : Nat} {s t : PM} {vg : Value} {got : List PE} (h : CSV w0 W D E s t vg got) (A : Option Addr) (zs : List Nat) (n c : Nat) (hl : n = zs.length) (hc : n ≤ c) (hn : n ≤ 10000) (hR : BS w0 w0.heap.size A zs) : Calls Tryd.prog 14 #[.pointer (some ⟨D, 0, none⟩), .slice A n c] W (fun e w' => ∃ A' c', e = .returned (.slice A' (takesP s (u8s zs)).2.length c') ∧ Told w0 w' D E (takesP s (u8s zs)).1 t vg got A' (takesP s (u8s zs)).2 c') :=
  (h.pv.again (fun _ ha => all_mi ha h.cs.g1 h.cs.q1.gq A (u8s zs) c n (by rw [hl]; simp [u8s]) (RB.of_bs ha hR h.cs.l1 h.cs.b hc) hn)).mono fun _ _ ⟨A', c', cs, he, hp, ho, hl', hb⟩ => ⟨A', c', he, h.cs.after hp hb (.inr (gt_both h.cs.g1 h.cs.g2 h.cs.p2.lt.1 hb)) (h.cs.q1.takes _) h.nb, nb_takes _ _, cs, ho, hl'⟩
theorem Told.rows {w0 W : World} {D E : Nat} {s t : PM} {vg : Value} {got : List PE} {A : Option Addr} {es : List PE} {c : Nat} (h : Told w0 W D E s t vg got A es c) : ∃ csg cs, W.ownsRow (D + 1) 41 8 vg got.length csg ∧ EvL W got csg ∧ W.ownsRow (D + 1) 41 8 (.slice A es.length c) es.length cs ∧ EvL W es cs ∧ D + 1 ≤ W.heap.size := by
  obtain ⟨⟨⟨a, b, A', c', csg, h1, h2, h3, hv, ho, hl, hg⟩, _, _⟩, _, cs, ho', hl'⟩ := h
  exact ⟨csg, cs, ho, hl, ho', hl', lt_of_block h1.blk⟩
theorem Told.put {w0 W w2 : World} {D E : Nat} {s t : PM} {vg v2 : Value} {got es : List PE} {A : Option Addr} {c : Nat} {csg cs : List Value} (h : Told w0 W D E s t vg got A es c) (ho : W.ownsRow (D + 1) 41 8 vg got.length csg) (hl : EvL W got csg) (hl' : EvL W es cs) (hg2 : W.grownBy w2 vg.ownBlock) (hb2 : v2.ownBlock = vg.ownBlock ∨ v2.ownBlock = some W.heap.size)
    (ho2 : w2.ownsRow (D + 1) 41 8 v2 (got.length + es.length) (csg ++ cs)) : CSV w0 w2 D E s t v2 (got ++ es) := by
  have hp := h.1.pv.append hg2 hb2 ho hl hl' (by rw [List.length_append]; exact ho2)
  have hD := h.1.cs.p2.lt.1
  have hb : Below D W w2 := ⟨hg2.os, hg2.tape, hg2.output, hg2.size, fun i hi => hg2.block i (by omega) (fun e => by have := (own_lt' ho e).1; omega)⟩
  exact h.1.cs.after hp hb (.inr (gt_both h.1.cs.g1 h.1.cs.g2 hD hb)) h.1.cs.q1 (h.1.nb.app h.2.1)

end Go.Proofs.YtmmkcfjncpcabaaDoor

namespace Go.Proofs.YtmmkcfjncpcabaaDoor
open Go.RowKit

/-- The parser behind the first bytes, and its events. -/
def SC (k : Nat) (zs : List Nat) (o : Nat) : PM := (takesP (newP k) (u8s (zs.take o))).1
def GC (k : Nat) (zs : List Nat) (o : Nat) : List PE := (takesP (newP k) (u8s (zs.take o))).2
theorem u8s_app (a b : List Nat) : u8s (a ++ b) = u8s a ++ u8s b := by simp [u8s]
theorem take_add' (zs : List Nat) (o t : Nat) : zs.take (o + t) = zs.take o ++ (zs.drop o).take t := List.take_add
theorem SC_add (k : Nat) (zs : List Nat) (o t : Nat) : SC k zs (o + t) = (takesP (SC k zs o) (u8s ((zs.drop o).take t))).1 ∧ GC k zs (o + t) = GC k zs o ++ (takesP (SC k zs o) (u8s ((zs.drop o).take t))).2 := by
  unfold SC GC
  rw [take_add', u8s_app, takesP_app]
  exact ⟨rfl, rfl⟩
theorem GC_len (k : Nat) (zs : List Nat) (o : Nat) : (GC k zs o).length ≤ 5 * zs.length := by
  have := takesP_len (u8s (zs.take o)) (newP k) (PSB.nil rfl)
  rw [u8s, List.length_map, List.length_take] at this
  unfold GC
  rw [u8s]
  omega
/-- Bytes of a slice's slice. -/
theorem BS.dropS {w : World} {B : Nat} {b off : Nat} {zs : List Nat} (h : BS w B (some ⟨b, off, none⟩) zs) (t : Nat) : BS w B (some ⟨b, off + t, none⟩) (zs.drop t) := h.drop t (off + t) (fun _ => rfl)
theorem BS.nil {w : World} {B : Nat} (A : Option Addr) : BS w B A [] := ⟨fun z hz => (by cases hz), fun h => absurd rfl h⟩
theorem BS.sliceAt {w : World} {B : Nat} {B0 : Option Addr} {zs : List Nat} {o r t cr n : Nat} (h : BS w B B0 (zs.drop o)) (hn : n = zs.length) (hor : o + r = n) (hr : r ≤ cr) : BS w B (if cr = t then B0 else Option.map (fun x => x.add t) B0) (zs.drop (o + t)) := by
  by_cases hd : zs.drop (o + t) = []
  · rw [hd]; exact BS.nil _
  · have hlt : o + t < zs.length := by
      rcases Nat.lt_or_ge (o + t) zs.length with h1 | h1
      · exact h1
      · exact absurd (List.drop_of_length_le h1) hd
    have hne : zs.drop o ≠ [] := fun e => by
      have := congrArg List.length e
      rw [List.length_drop, List.length_nil] at this
      omega
    obtain ⟨b, off, rfl, hb, hc⟩ := h.2 hne
    rw [if_neg (by omega), Option.map_some, show (⟨b, off, none⟩ : Addr).add t = ⟨b, off + t, none⟩ by unfold Addr.add; split <;> simp_all, ← List.drop_drop]
    exact h.dropS t
theorem piece_cs (w W : World) (D E k : Nat) (vg : Value) (B0 : Option Addr) (zs : List Nat) (o t c : Nat) (h : CSV w W D E (SC k zs o) (newP k) vg (GC k zs o)) (hR : BS w w.heap.size B0 (zs.drop o)) (hc : t ≤ c) (ht : o + t ≤ zs.length) (hz : zs.length ≤ 1000) :
    Calls Tryd.prog 14 #[.pointer (some ⟨D, 0, none⟩), .slice B0 t c] W (fun e w' => ∃ A' c' es, e = .returned (.slice A' es.length c') ∧ GC k zs (o + t) = GC k zs o ++ es ∧ Told w w' D E (SC k zs (o + t)) (newP k) vg (GC k zs o) A' es c') := by
  obtain ⟨e1, e2⟩ := SC_add k zs o t
  refine (again_cs h B0 ((zs.drop o).take t) t c (by rw [List.length_take, List.length_drop]; omega) hc (by omega) (hR.take t)).mono ?_
  rintro e w' ⟨A', c', he, hT⟩
  rw [← e1] at hT
  exact ⟨A', c', _, he, e2, hT⟩
set_option maxRecDepth 100000 in
set_option maxHeartbeats 8000000 in
theorem parseCuts_main (A B : Option Addr) (zs ys : List Nat) (n c m d h : Nat) (hn : n = zs.length) (hc : n ≤ c) (hm : m = ys.length) (hd : m ≤ d) (hh : h < 256) (hn2 : n ≤ 400) (hm2 : m ≤ 60) (w : World) (hG : GW w) (hR : BS w w.heap.size A zs) (hS : BS w w.heap.size B ys) :
    Calls Tryd.prog 5 #[.slice A n c, .slice B m d, .int .u8 h] w fun e w' => e = .returned (.bool true) ∧ Below w.heap.size w w' := by
  obtain ⟨i0, hi0, hz0, hz1, hz2⟩ := info_parts Tryd.infoEvent
  have HA : Hid (∀ W, Below w.heap.size w W → Calls Tryd.prog 10 #[] W fun e w' => e = .returned (.bool true) ∧ Below w.heap.size w w') := Lib.hid fun W hW => (awake_any W (hG.below hW)).mono fun _ _ hp => ⟨hp.1, hW.trans (hp.2.mono hW.size)⟩
  have HM : Hid (∀ W (z : Int), z = (h : Int) → Calls Tryd.prog 11 #[.int .u8 z] W fun e w' => e = .returned (.pointer (some ⟨W.heap.size, 0, none⟩)) ∧ MI w' W.heap.size (newP (h + 1)) [] (newA (h + 1)) ∧ Below W.heap.size W w') := Lib.hid fun W z hz => by rw [hz]; exact made_any h (by omega) W
  have HN : Hid (∀ w1 w2 w3 : World, Below w.heap.size w w1 → MI w2 w1.heap.size (newP (h + 1)) [] (newA (h + 1)) → Below w1.heap.size w1 w2 → MI w3 w2.heap.size (newP (h + 1)) [] (newA (h + 1)) → Below w2.heap.size w2 w3 → CSV w w3 w1.heap.size w2.heap.size (SC (h + 1) zs 0) (newP (h + 1)) (.slice none 0 0) (GC (h + 1) zs 0)) := Lib.hid fun w1 w2 w3 h01 h1 hb1 h2 hb2 => (CS.new hG h01 h1 hb1 h2 hb2 (by omega)).nothing
  generalize hk : h + 1 = k at *
  have H1 : Hid (∀ W D E vg B0 o t c, CSV w W D E (SC k zs o) (newP k) vg (GC k zs o) → BS w w.heap.size B0 (zs.drop o) → t ≤ c → o + t ≤ zs.length → Calls Tryd.prog 14 #[.pointer (some ⟨D, 0, none⟩), .slice B0 t c] W (fun e w' => ∃ A' c' es, e = .returned (.slice A' es.length c') ∧ GC k zs (o + t) = GC k zs o ++ es ∧ Told w w' D E (SC k zs (o + t)) (newP k) vg (GC k zs o) A' es c')) := Lib.hid fun W D E vg B0 o t c h1 h2 h3 h4 => piece_cs w W D E k vg B0 zs o t c h1 h2 h3 h4 (by omega)
  have HLN : Hid (∀ o, (GC k zs o).length ≤ 2000) := Lib.hid fun o => Nat.le_trans (GC_len k zs o) (by omega)
  have HE : Hid (SC k zs n = (takesP (newP k) (u8s zs)).1 ∧ GC k zs n = (takesP (newP k) (u8s zs)).2) := Lib.hid (by unfold SC GC; rw [hn, List.take_length]; exact ⟨rfl, rfl⟩)
  have HY : Hid (∀ W D E A0 c0 T es, SC k zs n = T → GC k zs n = es → CSV w W D E T (newP k) (.slice A0 es.length c0) es → Calls Tryd.prog 14 #[.pointer (some ⟨E, 0, none⟩), .slice A n c] W (fun e w' => ∃ A' c', e = .returned (.slice A' es.length c') ∧ CS w w' D E T T ∧ EvS w' A0 es ∧ EvS w' A' es)) := Lib.hid fun W D E A0 c0 T es hT hes hcs => (all2_cs hcs A zs n c hn hc (by omega) hR).mono fun _ _ ⟨v, h1, h2, ⟨A1, c1, e1, h3⟩, A2, c2, e2, h4⟩ => by
    rw [HE.out.1] at hT
    rw [HE.out.2] at hes
    rw [hT] at h2
    rw [hes] at e2 h4
    injection e1 with e3 _ _
    subst e3; subst e2
    exact ⟨A2, c2, h1, h2, h3, h4⟩
  have HZ : Hid (∀ W A A' c c' es, GC k zs n = es → EvS W A es → EvS W A' es → Calls Tryd.prog 13 #[.slice A es.length c, .slice A' es.length c'] W (fun e w' => e = .returned (.bool true) ∧ Below W.heap.size W w')) := Lib.hid fun W A A' c c' es hes h1 h2 => (same4_any A A' es es es.length es.length c c' rfl rfl (by
      have := HLN.out n
      rw [← hes]
      omega) W h1 h2 (by rw [← hes, HE.out.2]; exact (nb_takes _ _).small)).mono fun _ _ hp => ⟨by rw [hp.1]; simp, hp.2⟩
  have HU : Hid (∀ W D E T, CS w W D E T T → Calls Tryd.prog 15 #[.pointer (some ⟨D, 0, none⟩)] W (fun e w' => e = .returned (.int .i64 T.state) ∧ CS w w' D E T T)) := Lib.hid fun W D E T hcs => (state_cs hcs).mono fun _ _ hp => ⟨hp.1, hcs.past hp.2⟩
  have HW : Hid (∀ W D E T, CS w W D E T T → Calls Tryd.prog 15 #[.pointer (some ⟨E, 0, none⟩)] W (fun e w' => e = .returned (.int .i64 T.state) ∧ CS w w' D E T T)) := Lib.hid fun W D E T hcs => (state_cs hcs.swap).mono fun _ _ hp => ⟨hp.1, hcs.past hp.2⟩
  have HU2 : Hid (∀ W D E T, CS w W D E T T → Calls Tryd.prog 16 #[.pointer (some ⟨D, 0, none⟩)] W (fun e w' => e = .returned (.int .i64 (heldP T : Nat)) ∧ CS w w' D E T T)) := Lib.hid fun W D E T hcs => (held_cs hcs).mono fun _ _ hp => ⟨hp.1, hcs.past hp.2⟩
  have HW2 : Hid (∀ W D E T, CS w W D E T T → Calls Tryd.prog 16 #[.pointer (some ⟨E, 0, none⟩)] W (fun e w' => e = .returned (.int .i64 (heldP T : Nat)) ∧ CS w w' D E T T)) := Lib.hid fun W D E T hcs => (held_cs hcs.swap).mono fun _ _ hp => ⟨hp.1, hcs.past hp.2⟩
  have n1 : ¬ (400 : Int) < n := by omega
  have n2 : ¬ (60 : Int) < m := by omega
  have HL := Lib.hid hn
  have HL2 := Lib.hid hm
  have HR := Lib.hid hR
  have HS := Lib.hid hS
  clear hn hm hR hS hG HE
  go_enter Tryd.func5, Tryd.ntmps5
  go_wp2_with (first
    | (go_at_call 10; (with_reducible refine (HA.out _ (Below.refl _ _)).mono ?_); rintro e w1 ⟨rfl, hb1⟩; have HB1 := Lib.hid hb1; clear hb1)
    | (go_at_call 11; (with_reducible refine (HM.out w1 _ rfl).mono ?_); rintro e w2 ⟨rfl, hm2', hb2⟩; have HM2 := Lib.hid hm2'; have HB2 := Lib.hid hb2; clear hm2' hb2)
    | (go_at_call 11; (with_reducible refine (HM.out w2 _ rfl).mono ?_); rintro e w3 ⟨rfl, hm3', hb3⟩; have HC3 := Lib.hid (HN.out _ _ _ HB1.out HM2.out HB2.out hm3' hb3); clear hm3' hb3))
  go_loopw [9, 10, 11] (fun vg rs i wr => ∃ (k0 o r cr : Nat) (B0 : Option Addr) (vo : Value), vo = vg ∧ k0 ≤ m ∧ i = .int .i64 k0 ∧ rs = .slice B0 r cr ∧ r ≤ cr ∧ o + r = n ∧ Hid (BS w w.heap.size B0 (zs.drop o)) ∧ Hid (CSV w wr w1.heap.size w2.heap.size (SC k zs o) (newP k) vo (GC k zs o))) (fun _ _ i _ => m - (intOf i).toNat)
  case atStart => exact ⟨0, 0, n, c, A, _, rfl, Nat.zero_le _, rfl, rfl, hc, Nat.zero_add _, Lib.hid (by rw [List.drop_zero]; exact HR.out), HC3⟩
  case round =>
    obtain ⟨k0, o, r, cr, B0, vo, rfl, hk0, rfl, rfl, hrc, hor, HRo, HCo⟩ := hrel
    by_cases hlt : k0 < m
    · obtain ⟨b, off, rfl, hbl, hcl⟩ := HS.out.2 (by rintro rfl; have := HL2.out; simp at this; omega)
      have hck := ((HCo.out.cs.b).cell (p := ⟨b, off + k0, none⟩) hbl).trans (hcl k0 (by rw [← HL2.out]; exact hlt))
      have hki : (k0 : Int) < m := by omega
      have hz8 : ys[k0]?.getD 0 < 256 := by
        rw [List.getElem?_eq_getElem (by rw [← HL2.out]; exact hlt)]
        exact HS.out.1 _ (List.getElem_mem _)
      clear hcl hbl
      generalize ys[k0]?.getD 0 = z at *
      have hzi : ((z : Nat) : Int) % 18446744073709551616 = z := by omega
      have HOR := Lib.hid hor
      have hrn : r ≤ n := by omega
      clear hor
      have HP : Hid (∀ vg t, t ≤ r → CSV w wr w1.heap.size w2.heap.size (SC k zs o) (newP k) vg (GC k zs o) → Calls Tryd.prog 14 #[.pointer (some ⟨w1.heap.size, 0, none⟩), .slice B0 t cr] wr (fun e w' => ∃ A' c' es, e = .returned (.slice A' es.length c') ∧ GC k zs (o + t) = GC k zs o ++ es ∧ Told w w' w1.heap.size w2.heap.size (SC k zs (o + t)) (newP k) vg (GC k zs o) A' es c')) := Lib.hid fun vg t ht hcs => H1.out _ _ _ _ _ _ _ _ hcs HRo.out (by omega) (by have := HOR.out; have := HL.out; omega)
      go_wp2_with (first
        | (go_at_call 14; (with_reducible refine (HP.out vo _ (by omega) HCo.out).mono ?_); rintro e w4 ⟨A4, c4, es4, rfl, hg4, hT4⟩; obtain ⟨csg4, cs4, hr1, hr2, hr3, hr4, hr5⟩ := hT4.rows; have HG4 := Lib.hid hg4; have HT4 := Lib.hid hT4; have HR1 := Lib.hid hr1; have HR2 := Lib.hid hr2; have HR3 := Lib.hid hr3; have HR4 := Lib.hid hr4; have HR5 := Lib.hid hr5; clear hg4 hT4 hr1 hr2 hr3 hr4 hr5)
        | (at_builtin; go_must (refine wpList_append_lotE _ rfl (.tmp 51) (.tmp 56) 29 rfl (w1.heap.size + 1) 41 i0 _ 8 80 Tryd.underlying29 hi0 hz0 hz1 hz2 rfl (by decide) vo (GC k zs o).length csg4 rfl HR1.out A4 es4.length c4 cs4 rfl ((own_formE HR3.out).elim fun _ h => h.elim fun _ h => by have h1 := h.1; have h2 := h.2.1; injection h1 with h3 _ h4; rw [h3, h4]; exact h2) HR3.out.1 (own_newsE HR3.out) (EvL.one _ _ HR4.out) (by have h1 := HLN.out (o + (min (z : Int) r).toNat); rw [HG4.out, List.length_append] at h1; unfold maxLen; omega) (by have h1 := HLN.out (o + (min (z : Int) r).toNat); rw [HG4.out, List.length_append] at h1; omega) HR5.out ?_; intro v5 w5 ho5 hg5 hb5; have HC5 : Hid (CSV w w5 w1.heap.size w2.heap.size (SC k zs (o + (min (z : Int) r).toNat)) (newP k) v5 (GC k zs (o + (min (z : Int) r).toNat))) := Lib.hid (by rw [HG4.out]; exact HT4.out.put HR1.out HR2.out HR4.out hg5 hb5 ho5); clear ho5 hg5 hb5)))
      have HOR' := HOR.out
      have ht : (min (z : Int) r).toNat ≤ r := by omega
      exact ⟨⟨k0 + 1, o + (min (z : Int) r).toNat, r - (min (z : Int) r).toNat, cr - (min (z : Int) r).toNat, _, _, rfl, hlt, by go_num, rfl, by omega, by omega, Lib.hid (HRo.out.sliceAt HL.out HOR' hrc), HC5⟩, by simp [intOf]; omega⟩
    · obtain rfl : k0 = m := by omega
      have HP : Hid (∀ vg, CSV w wr w1.heap.size w2.heap.size (SC k zs o) (newP k) vg (GC k zs o) → Calls Tryd.prog 14 #[.pointer (some ⟨w1.heap.size, 0, none⟩), .slice B0 r cr] wr (fun e w' => ∃ A' c' es, e = .returned (.slice A' es.length c') ∧ GC k zs n = GC k zs o ++ es ∧ Told w w' w1.heap.size w2.heap.size (SC k zs n) (newP k) vg (GC k zs o) A' es c')) := Lib.hid fun vg hcs => by
        have := H1.out _ _ _ _ _ o r cr hcs HRo.out hrc (by have := HL.out; omega)
        rw [hor] at this
        exact this
      clear hor hrc
      obtain ⟨T, hT⟩ : ∃ T, SC k zs n = T := ⟨_, rfl⟩
      obtain ⟨es, hes⟩ : ∃ es, GC k zs n = es := ⟨_, rfl⟩
      have HT0 := Lib.hid hT
      have HE0 := Lib.hid hes
      have HLE : Hid (es.length ≤ 2000) := Lib.hid (by rw [← hes]; exact HLN.out n)
      rw [hT, hes] at HP
      clear hT hes
      go_wp2_with (first
        | (go_at_call 14; (with_reducible refine (HP.out vo HCo.out).mono ?_); rintro e w4 ⟨A4, c4, es4, rfl, hg4, hT4⟩; obtain ⟨csg4, cs4, hr1, hr2, hr3, hr4, hr5⟩ := hT4.rows; have HG4 := Lib.hid hg4; have HT4 := Lib.hid hT4; have HR1 := Lib.hid hr1; have HR2 := Lib.hid hr2; have HR3 := Lib.hid hr3; have HR4 := Lib.hid hr4; have HR5 := Lib.hid hr5; clear hg4 hT4 hr1 hr2 hr3 hr4 hr5)
        | (at_builtin; go_must (refine wpList_append_lotE _ rfl (.tmp 61) (.tmp 64) 29 rfl (w1.heap.size + 1) 41 i0 _ 8 80 Tryd.underlying29 hi0 hz0 hz1 hz2 rfl (by decide) vo (GC k zs o).length csg4 rfl HR1.out A4 es4.length c4 cs4 rfl ((own_formE HR3.out).elim fun _ h => h.elim fun _ h => by have h1 := h.1; have h2 := h.2.1; injection h1 with h3 _ h4; rw [h3, h4]; exact h2) HR3.out.1 (own_newsE HR3.out) (EvL.one _ _ HR4.out) (by have h1 := HLE.out; rw [HG4.out, List.length_append] at h1; unfold maxLen; omega) (by have h1 := HLE.out; rw [HG4.out, List.length_append] at h1; omega) HR5.out ?_; intro v5 w5 ho5 hg5 hb5; have hc5 : CSV w w5 w1.heap.size w2.heap.size T (newP k) v5 es := (by rw [HG4.out]; exact HT4.out.put HR1.out HR2.out HR4.out hg5 hb5 ho5); obtain ⟨A5, c5, rfl⟩ := hc5.slice; have HC5 := Lib.hid hc5; clear ho5 hg5 hb5 hc5))
        | (go_at_call 14; (with_reducible refine (HY.out _ _ _ _ _ _ _ HT0.out HE0.out HC5.out).mono ?_); rintro e w6 ⟨A6, c6, rfl, hp6, hv5, hv6⟩; have HC6 := Lib.hid hp6; have HV5 := Lib.hid hv5; have HV6 := Lib.hid hv6; clear hp6 hv5 hv6)
        | (go_at_call 13; (with_reducible refine (HZ.out _ _ _ _ _ _ HE0.out HV5.out HV6.out).mono ?_); rintro e w7 ⟨rfl, hb7⟩; have HC7 := Lib.hid (HC6.out.past hb7); clear hb7)
        | (go_at_call 15; (with_reducible refine (HU.out _ _ _ _ HC7.out).mono ?_); rintro e w8 ⟨rfl, hp8⟩; have HC8 := Lib.hid hp8; clear hp8)
        | (go_at_call 15; (with_reducible refine (HW.out _ _ _ _ HC8.out).mono ?_); rintro e w9 ⟨rfl, hp9⟩; have HC9 := Lib.hid hp9; clear hp9)
        | (go_at_call 16; (with_reducible refine (HU2.out _ _ _ _ HC9.out).mono ?_); rintro e w10 ⟨rfl, hp10⟩; have HC10 := Lib.hid hp10; clear hp10)
        | (go_at_call 16; (with_reducible refine (HW2.out _ _ _ _ HC10.out).mono ?_); rintro e w11 ⟨rfl, hp11⟩; have HC11 := Lib.hid hp11; clear hp11))
      go_ret
      exact ⟨rfl, HC11.out.b⟩
set_option maxRecDepth 100000 in
set_option maxHeartbeats 8000000 in
theorem parseCuts_law (A B : Option Addr) (zs ys : List Nat) (n c m d h : Nat) (hn : n = zs.length) (hc : n ≤ c) (hm : m = ys.length) (hd : m ≤ d) (hh : h < 256) (w : World) (hG : GW w) (hR : BS w w.heap.size A zs) (hS : BS w w.heap.size B ys) :
    Calls Tryd.prog 5 #[.slice A n c, .slice B m d, .int .u8 h] w fun e w' => e = .returned (.bool true) ∧ Below w.heap.size w w' := by
  by_cases h1 : n ≤ 400
  · by_cases h2 : m ≤ 60
    · exact parseCuts_main A B zs ys n c m d h hn hc hm hd hh h1 h2 w hG hR hS
    · have HA := Lib.hid (awake_any w hG)
      have n1 : ¬ (400 : Int) < n := by omega
      have n2 : (60 : Int) < m := by omega
      clear hn hm hR hS hG
      go_enter Tryd.func5, Tryd.ntmps5
      go_wp2_with (go_at_call 10; (with_reducible refine HA.out.mono ?_); rintro e w1 ⟨rfl, hb1⟩; have HB1 := Lib.hid hb1; clear hb1)
      go_ret
      exact ⟨rfl, HB1.out⟩
  · have HA := Lib.hid (awake_any w hG)
    have n1 : (400 : Int) < n := by omega
    clear hn hm hR hS hG
    go_enter Tryd.func5, Tryd.ntmps5
    go_wp2_with (go_at_call 10; (with_reducible refine HA.out.mono ?_); rintro e w1 ⟨rfl, hb1⟩; have HB1 := Lib.hid hb1; clear hb1)
    go_ret
    exact ⟨rfl, HB1.out⟩
theorem parseCuts_lawI (A B : Option Addr) (zs ys : List Nat) (n c m d : Nat) (h : Int) (hn : n = zs.length) (hc : n ≤ c) (hm : m = ys.length) (hd : m ≤ d) (h0 : 0 ≤ h) (hh : h ≤ 255) (w : World) (hG : GW w) (hR : BS w w.heap.size A zs) (hS : BS w w.heap.size B ys) :
    Calls Tryd.prog 5 #[.slice A n c, .slice B m d, .int .u8 h] w fun e w' => e = .returned (.bool true) ∧ Below w.heap.size w w' := by
  obtain ⟨k, rfl⟩ : ∃ k : Nat, h = k := ⟨h.toNat, by omega⟩
  exact parseCuts_law A B zs ys n c m d k hn hc hm hd (by omega) w hG hR hS

end Go.Proofs.YtmmkcfjncpcabaaDoor
