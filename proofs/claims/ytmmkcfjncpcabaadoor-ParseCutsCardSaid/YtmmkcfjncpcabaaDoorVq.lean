/- New, State, Held, Step; a parser that isn't there. -/
import Derived.Test.YtmmkcfjncpcabaaDoorMz
import Derived.Test.YtmmkcfjncpcabaaDoorSw
namespace Go.Proofs.YtmmkcfjncpcabaaDoor
open Go.RowKit

def newP (m : Nat) : PM := ⟨0, [], [], false, 0, [], false, 0, m, []⟩
def newA (m : Nat) : PV := ⟨.int .u8 0, .slice none 0 0, .slice none 0 0, .bool false, .int .u8 0, .slice none 0 0, .bool false, .int .i64 0, .int .i64 m, .int .u8 0, .int .u8 0, .int .u8 0, .int .u8 0, .int .i64 0, .slice none 0 0⟩
theorem GQ.new {m : Nat} (h : m ≤ 65536) : GQ (newP m) := ⟨⟨rfl, Nat.zero_le _, h⟩, .inl rfl⟩
theorem MI.new {w : World} {D m : Nat} (h : w.heap[D]? = some (.cells (newA m).arr 58 (0, 0))) : MI w D (newP m) [] (newA m) := by
  have hb : PB w D (newA m) := h
  refine ⟨hb, rfl, World.ownsRow_nil _ _ _ _, World.ownsRow_nil _ _ _ _, rfl, rfl, World.ownsRow_nil _ _ _ _, rfl, rfl, rfl, ?_, ⟨[], World.ownsRow_nil _ _ _ _, rfl⟩, fun g e => (by cases e), fun g e => (by cases e)⟩
  refine ⟨lt_of_block hb, Nat.zero_le _, fun p hp => (by cases hp), (hb.cell 13).trans rfl, fun k hk => (by cases hk), fun k hk => ⟨0, ?_⟩, fun k _ => hb.free _⟩
  rw [hb.cell]
  match k, hk with
  | 0, _ => rfl
  | 1, _ => rfl
  | 2, _ => rfl
  | 3, _ => rfl
set_option maxRecDepth 100000 in
set_option maxHeartbeats 2000000 in
theorem new_bad (m : Int) (hm : m < 1 ∨ 65536 < m) (w : World) : Calls Tryd.prog 19 #[.int .i64 m] w fun e w' => e = .returned (.tuple #[.pointer none, .int .i64 1]) ∧ Below w.heap.size w w' := by
  rcases hm with hm | hm
  · have e1 : decide (m < 1) = true := decide_eq_true hm
    go_enter Tryd.func19, Tryd.ntmps19
    go_wp2
    go_ret2
    exact ⟨rfl, Below.refl _ _⟩
  · have e1 : decide (m < 1) = false := decide_eq_false (by omega)
    have e2 : decide (m > 65536) = true := decide_eq_true (by omega)
    have e3 : 65536 < m := by omega
    go_enter Tryd.func19, Tryd.ntmps19
    go_wp2
    go_ret2
    exact ⟨rfl, Below.refl _ _⟩
set_option maxRecDepth 100000 in
set_option maxHeartbeats 2000000 in
theorem new_any (m : Nat) (h1 : 1 ≤ m) (h2 : m ≤ 65536) (w : World) : Calls Tryd.prog 19 #[.int .i64 m] w fun e w' => e = .returned (.tuple #[.pointer (some ⟨w.heap.size, 0, none⟩), .int .i64 0]) ∧ MI w' w.heap.size (newP m) [] (newA m) ∧ Below w.heap.size w w' := by
  have e1 : decide ((m : Int) < 1) = false := decide_eq_false (by omega)
  have e2 : decide ((m : Int) > 65536) = false := decide_eq_false (by omega)
  have e3 : ¬ 65536 < (m : Int) := by omega
  go_enter Tryd.func19, Tryd.ntmps19
  go_wp2
  go_ret2
  exact ⟨rfl, MI.new (heap_alloc_new w _), (Below.refl _ _).alloc (Nat.le_refl _) _⟩

theorem seg_end {P : Program} {ops : Array Oper} {md : Region.Mode} {w : World} {Q : Exit → Act → World → Prop} {a : Act} {listed : Array Bool} (h0 : Region.ready md ops listed = []) (h : Q .normal a w) : wpAny P md ops Q 0 listed a w := ⟨h0, h⟩
set_option maxRecDepth 100000 in
theorem state_mi {w : World} {D : Nat} {s : PM} {es : List PE} {a : PV} (h : MI w D s es a) : Calls Tryd.prog 15 #[.pointer (some ⟨D, 0, none⟩)] w fun e w' => e = .returned (.int .i64 s.state) ∧ Below w.heap.size w w' := by
  have c7 : w.cell? ⟨D, 7, none⟩ = some a.state := h.blk.cell 7
  rw [h.state] at c7
  generalize s.state = st at *
  clear h
  go_enter Tryd.func15, Tryd.ntmps15
  go_wp2
  go_ret
  exact ⟨rfl, Below.refl _ _⟩
def heldP (s : PM) : Nat := s.ps.length + s.head.length + s.inter.length + s.pay.length
set_option maxRecDepth 100000 in
set_option maxHeartbeats 2000000 in
theorem held_mi {w : World} {D : Nat} {s : PM} {es : List PE} {a : PV} (h : MI w D s es a) (hP : GP s) (hi : s.inter.length ≤ 2) (hp : s.pay.length ≤ 65536) : Calls Tryd.prog 16 #[.pointer (some ⟨D, 0, none⟩)] w fun e w' => e = .returned (.int .i64 (heldP s : Nat)) ∧ Below w.heap.size w w' := by
  have HL := Lib.hid ((left_any D s.ps.length w.drew h.dec.left).mono fun _ _ ⟨h1, h2⟩ => And.intro h1 h2.symm)
  have c1 : w.cell? ⟨D, 1, none⟩ = some a.head := h.blk.cell 1
  have c2 : w.cell? ⟨D, 2, none⟩ = some a.inter := h.blk.cell 2
  have c5 : w.cell? ⟨D, 5, none⟩ = some a.pay := h.blk.cell 5
  obtain ⟨A1, x1, e1, _⟩ := own_form h.head
  obtain ⟨A2, x2, e2, _⟩ := own_form h.inter
  obtain ⟨A5, x5, e5, _⟩ := own_form h.pay
  rw [e1] at c1
  rw [e2] at c2
  rw [e5] at c5
  have h1 := hP.hlen
  have h4 := h.dec.len
  unfold heldP
  generalize s.ps.length = n0 at *
  generalize s.head.length = n1 at *
  generalize s.inter.length = n2 at *
  generalize s.pay.length = n5 at *
  have hlt := lt_of_block h.blk
  clear h e1 e2 e5 hP
  go_enter Tryd.func16, Tryd.ntmps16
  go_wp2_with fail
  refine seg_start (by kernel_rfl) ?_
  refine seg_quiet 0 25 1 rfl (by kernel_rfl) (by kernel_rfl) (by kernel_rfl) (by kernel_rfl) (by kernel_rfl) (by kernel_rfl) ?_
  simp only [List.take_succ_cons, List.take_zero, List.drop_zero]
  ((with_reducible refine wpStill_step (fun K hK => ?_)); go_simp; (with_reducible refine hK _ ?_); clear hK K)
  ((with_reducible refine wpStill_step (fun K hK => ?_)); go_simp; (with_reducible refine hK _ ?_); clear hK K)
  ((with_reducible refine wpStill_step (fun K hK => ?_)); go_simp; (with_reducible refine hK _ ?_); clear hK K)
  still_call HL.out
  ((with_reducible refine wpStill_step (fun K hK => ?_)); go_simp; (with_reducible refine hK _ ?_); clear hK K)
  ((with_reducible refine wpStill_step (fun K hK => ?_)); go_simp; (with_reducible refine hK _ ?_); clear hK K)
  ((with_reducible refine wpStill_step (fun K hK => ?_)); go_simp; (with_reducible refine hK _ ?_); clear hK K)
  ((with_reducible refine wpStill_step (fun K hK => ?_)); go_simp; (with_reducible refine hK _ ?_); clear hK K)
  ((with_reducible refine wpStill_step (fun K hK => ?_)); go_simp; (with_reducible refine hK _ ?_); clear hK K)
  ((with_reducible refine wpStill_step (fun K hK => ?_)); go_simp; (with_reducible refine hK _ ?_); clear hK K)
  ((with_reducible refine wpStill_step (fun K hK => ?_)); go_simp; (with_reducible refine hK _ ?_); clear hK K)
  ((with_reducible refine wpStill_step (fun K hK => ?_)); go_simp; (with_reducible refine hK _ ?_); clear hK K)
  ((with_reducible refine wpStill_step (fun K hK => ?_)); go_simp; (with_reducible refine hK _ ?_); clear hK K)
  ((with_reducible refine wpStill_step (fun K hK => ?_)); go_simp; (with_reducible refine hK _ ?_); clear hK K)
  ((with_reducible refine wpStill_step (fun K hK => ?_)); go_simp; (with_reducible refine hK _ ?_); clear hK K)
  ((with_reducible refine wpStill_step (fun K hK => ?_)); go_simp; (with_reducible refine hK _ ?_); clear hK K)
  ((with_reducible refine wpStill_step (fun K hK => ?_)); go_simp; (with_reducible refine hK _ ?_); clear hK K)
  ((with_reducible refine wpStill_step (fun K hK => ?_)); go_simp; (with_reducible refine hK _ ?_); clear hK K)
  ((with_reducible refine wpStill_step (fun K hK => ?_)); go_simp; (with_reducible refine hK _ ?_); clear hK K)
  ((with_reducible refine wpStill_step (fun K hK => ?_)); go_simp; (with_reducible refine hK _ ?_); clear hK K)
  ((with_reducible refine wpStill_step (fun K hK => ?_)); go_simp; (with_reducible refine hK _ ?_); clear hK K)
  ((with_reducible refine wpStill_step (fun K hK => ?_)); go_simp; (with_reducible refine hK _ ?_); clear hK K)
  ((with_reducible refine wpStill_step (fun K hK => ?_)); go_simp; (with_reducible refine hK _ ?_); clear hK K)
  ((with_reducible refine wpStill_step (fun K hK => ?_)); go_simp; (with_reducible refine hK _ ?_); clear hK K)
  ((with_reducible refine wpStill_step (fun K hK => ?_)); go_simp; (with_reducible refine hK _ ?_); clear hK K)
  with_reducible refine wpStill_nil ?_
  refine seg_one 25 0 rfl (by kernel_rfl) (fun K hK => ?_)
  go_simp
  (with_reducible refine hK.out _ _ ?_)
  clear hK K
  refine seg_end (by kernel_rfl) ?_
  have w1 : IntKind.i64.wrap ((n0 : Int) + n1) = n0 + n1 := IntWalk.i64_in _ (by omega)
  have w2 : IntKind.i64.wrap ((n0 : Int) + n1 + n2) = n0 + n1 + n2 := IntWalk.i64_in _ (by omega)
  have w3 : IntKind.i64.wrap ((n0 : Int) + n1 + n2 + n5) = n0 + n1 + n2 + n5 := IntWalk.i64_in _ (by omega)
  rw [w1, w2, w3]
  go_wp2
  go_ret
  exact ⟨by simp only [Int.natCast_add]; rfl, (Below.refl _ _).drew⟩
set_option maxRecDepth 100000 in
set_option maxHeartbeats 2000000 in
theorem step1_mi {w : World} {D : Nat} {s : PM} {a : PV} (h : MI w D s [] a) (hG : GT w D) (hP : GQ s) (x : UInt8) : Calls Tryd.prog 17 #[.pointer (some ⟨D, 0, none⟩), .int .u8 x.toNat] w (fun e w' => ∃ v, e = .returned v ∧ AP D (takeP s x).1 (takeP s x).2 a w v w') := by
  have HA : Hid (∀ t, Calls Tryd.prog 14 #[.pointer (some ⟨D, 0, none⟩), .slice (some ⟨w.heap.size, 0, none⟩) 1 1] (w.alloc (.cells #[.int .u8 x.toNat] t)) (fun e w' => ∃ v, e = .returned v ∧ AP D (takeP s x).1 (takeP s x).2 a w v w')) := Lib.hid fun t => by
    obtain ⟨hm, hf⟩ := h.past ((Below.refl _ _).alloc (Nat.le_refl _) (.cells #[.int .u8 x.toNat] t))
    refine (all_mi hm (hG.fr h hf) hP (some ⟨w.heap.size, 0, none⟩) [x] 1 1 rfl (fun _ => ⟨w.heap.size, 0, rfl, by simp, fun hmu => by have := (h.low hmu).2; omega, fun k hk => ?_⟩) (by omega)).mono fun _ _ ⟨v, h1, cs, a', A, c, h2, h3, h4, h5, h6, h7, h8⟩ => ⟨v, h1, ?_⟩
    · have hk0 : k = 0 := by simpa using hk
      subst hk0
      exact (cell_of_row _ _ 0 _ _ _ (heap_alloc_new w (.cells #[.int .u8 x.toNat] t))).trans rfl
    · have e1 : takesP s [x] = takeP s x := by simp [takesP]
      rw [e1] at h2 h3 h5 h6
      refine ⟨cs, a', A, c, h2, h3, hf.trans h4, h5, h6, h7, fun g hg => (h8 g hg).imp id fun hs => ?_⟩
      have : (w.alloc (.cells #[.int .u8 x.toNat] t)).heap.size = w.heap.size + 1 := by simp
      omega
  clear h hG hP
  generalize (x.toNat : Int) = z at *
  go_enter Tryd.func17, Tryd.ntmps17
  go_wp2_with (go_at_call 14; (with_reducible refine (HA.out _).mono ?_); rintro e w2 ⟨v, rfl, hp⟩; have HP := Lib.hid hp; clear hp)
  go_ret
  exact ⟨_, rfl, HP.out⟩

set_option maxRecDepth 100000 in
theorem state_none (w : World) : Calls Tryd.prog 15 #[.pointer none] w fun e w' => e = .returned (.int .i64 0) ∧ Below w.heap.size w w' := by
  go_enter Tryd.func15, Tryd.ntmps15
  go_wp2
  go_ret
  exact ⟨rfl, Below.refl _ _⟩
set_option maxRecDepth 100000 in
theorem held_none (w : World) : Calls Tryd.prog 16 #[.pointer none] w fun e w' => e = .returned (.int .i64 0) ∧ Below w.heap.size w w' := by
  go_enter Tryd.func16, Tryd.ntmps16
  go_wp2
  go_ret
  exact ⟨rfl, Below.refl _ _⟩
set_option maxRecDepth 100000 in
theorem all_none (v : Value) (w : World) : Calls Tryd.prog 14 #[.pointer none, v] w fun e w' => e = .returned (.slice none 0 0) ∧ Below w.heap.size w w' := by
  go_enter Tryd.func14, Tryd.ntmps14
  go_wp2
  go_ret
  exact ⟨rfl, Below.refl _ _⟩
set_option maxRecDepth 100000 in
theorem copy_none (w : World) : Calls Tryd.prog 18 #[.pointer none] w fun e w' => e = .returned (.pointer none) ∧ Below w.heap.size w w' := by
  go_enter Tryd.func18, Tryd.ntmps18
  go_wp2
  go_ret
  exact ⟨rfl, Below.refl _ _⟩
set_option maxRecDepth 100000 in
theorem step_none (z : Int) (w : World) : Calls Tryd.prog 17 #[.pointer none, .int .u8 z] w fun e w' => e = .returned (.slice none 0 0) ∧ Below w.heap.size w w' := by
  have HA : Hid (∀ v w1, Calls Tryd.prog 14 #[.pointer none, v] w1 fun e w' => e = .returned (.slice none 0 0) ∧ Below w1.heap.size w1 w') := Lib.hid all_none
  have HB : Hid (∀ o w2, Below (w.alloc o).heap.size (w.alloc o) w2 → Below w.heap.size w w2) := Lib.hid fun o w2 h => ((Below.refl _ _).alloc (Nat.le_refl _) o).trans (h.mono (by simp))
  go_enter Tryd.func17, Tryd.ntmps17
  go_wp2_with (go_at_call 14; (with_reducible refine (HA.out _ _).mono ?_); rintro e w2 ⟨rfl, hp⟩; have HP := Lib.hid (HB.out _ _ hp); clear hp)
  go_ret
  exact ⟨rfl, HP.out⟩

end Go.Proofs.YtmmkcfjncpcabaaDoor
