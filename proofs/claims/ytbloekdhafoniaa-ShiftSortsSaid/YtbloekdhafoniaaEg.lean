/- Places in boxes; rows of shifts; what All answers; the laws ShiftAll, ShiftBack. -/
import Derived.Test.YtbloekdhafoniaaEf
namespace Go.Proofs.Ytbloekdhafoniaa
open Go.RowKit

/-- A place lies in block g. -/
def PB (W : World) (g : Nat) (a b : Int) : Prop := W.heap[g]? = some (.cells #[.int .i64 a, .int .i64 b] 23 (0, 0))
theorem PB.new (W : World) (a b : Int) : PB (W.alloc (.cells #[.int .i64 a, .int .i64 b] 23)) W.heap.size a b := heap_alloc_new W _
theorem PB.lt {W : World} {g : Nat} {a b : Int} (h : PB W g a b) : g < W.heap.size := (Array.getElem?_eq_some_iff.1 h).1
theorem PB.c0 {W : World} {g : Nat} {a b : Int} (h : PB W g a b) : W.cell? ⟨g, 0, none⟩ = some (.int .i64 a) := cell_of_row _ _ 0 _ _ _ h
theorem PB.c1 {W : World} {g : Nat} {a b : Int} (h : PB W g a b) : W.cell? ⟨g, 1, none⟩ = some (.int .i64 b) := cell_of_row _ _ 1 _ _ _ h
theorem PB.free {W : World} {g : Nat} {a b : Int} (h : PB W g a b) (k : Nat) : W.frozen? ⟨g, k, none⟩ = false := unfrozen_of h k
theorem PB.past {W W' : World} {g : Nat} {a b : Int} (h : PB W g a b) (hb : Below W.heap.size W W') : PB W' g a b := keep hb h
theorem PB.alloc {W : World} {g : Nat} {a b : Int} (h : PB W g a b) (o : Obj) : PB (W.alloc o) g a b := old1 h
theorem PB.set {W : World} {g : Nat} {a b : Int} (h : PB W g a b) (x y : Int) : PB ((W.setCell ⟨g, 0, none⟩ (.int .i64 x)).setCell ⟨g, 1, none⟩ (.int .i64 y)) g x y :=
  heap_setCell_same (W.setCell ⟨g, 0, none⟩ (.int .i64 x)) g 1 _ _ (.int .i64 y) (heap_setCell_same W g 0 _ _ (.int .i64 x) h)
theorem PB.other {W : World} {g d : Nat} {a b : Int} (h : PB W g a b) (k : Nat) (v : Value) (hne : g ≠ d) : PB (W.setCell ⟨d, k, none⟩ v) g a b :=
  (heap_setCell_other W ⟨d, k, none⟩ g v hne).trans h
theorem PB.drew {W : World} {g : Nat} {a b : Int} (h : PB W g a b) : PB W.drew g a b := h

/-- A slice of shifts reads as a list. -/
def RSh (W : World) (B : Nat) (A : Option Addr) (l : List (Int × Int × Int)) : Prop :=
  l ≠ [] → ∃ b off, A = some ⟨b, off, none⟩ ∧ b < B ∧ ∀ k, k < l.length → W.cell? ⟨b, off + k * 3, none⟩ = some (.int .i64 (l[k]?.getD (0, 0, 0)).1) ∧ W.cell? ⟨b, off + k * 3 + 1, none⟩ = some (.int .i64 (l[k]?.getD (0, 0, 0)).2.1) ∧ W.cell? ⟨b, off + k * 3 + 2, none⟩ = some (.int .i64 (l[k]?.getD (0, 0, 0)).2.2)
theorem RSh.past {W W' : World} {A : Option Addr} {l : List (Int × Int × Int)} (h : RSh W W.heap.size A l) (hb : Below W.heap.size W W') : RSh W' W'.heap.size A l := fun hne => by
  obtain ⟨b, off, e, hl, hc⟩ := h hne
  have hs := hb.size
  exact ⟨b, off, e, by omega, fun k hk => ⟨(hb.cell (p := ⟨b, off + k * 3, none⟩) hl).trans (hc k hk).1, (hb.cell (p := ⟨b, off + k * 3 + 1, none⟩) hl).trans (hc k hk).2.1, (hb.cell (p := ⟨b, off + k * 3 + 2, none⟩) hl).trans (hc k hk).2.2⟩⟩
theorem RSh.at {W W' : World} {A : Option Addr} {l : List (Int × Int × Int)} (h : RSh W W.heap.size A l) (hb : Below W.heap.size W W') (k : Nat) (hk : k < l.length) :
    ∃ b off a1 a2 a3, A = some ⟨b, off, none⟩ ∧ b < W.heap.size ∧ l[k]? = some (a1, a2, a3) ∧ W'.cell? ⟨b, off + k * 3, none⟩ = some (.int .i64 a1) ∧ W'.cell? ⟨b, off + k * 3 + 1, none⟩ = some (.int .i64 a2) ∧ W'.cell? ⟨b, off + k * 3 + 2, none⟩ = some (.int .i64 a3) := by
  obtain ⟨b, off, e, hl, hc⟩ := h (fun e => by rw [e] at hk; simp at hk)
  obtain ⟨h1, h2, h3⟩ := hc k hk
  rw [List.getElem?_eq_getElem hk] at h1 h2 h3 ⊢
  exact ⟨b, off, _, _, _, e, hl, rfl, (hb.cell (p := ⟨b, off + k * 3, none⟩) hl).trans h1, (hb.cell (p := ⟨b, off + k * 3 + 1, none⟩) hl).trans h2, (hb.cell (p := ⟨b, off + k * 3 + 2, none⟩) hl).trans h3⟩

def allZ (p : Int × Int) (l : List (Int × Int × Int)) : Int × Int := l.foldl (fun p s => moveZ p.1 p.2 s.1 s.2.1 s.2.2) p
theorem allZ_snoc (p : Int × Int) (l : List (Int × Int × Int)) (k : Nat) (a1 a2 a3 : Int) (h : l[k]? = some (a1, a2, a3)) : allZ p (l.take (k + 1)) = moveZ (allZ p (l.take k)).1 (allZ p (l.take k)).2 a1 a2 a3 := by
  obtain ⟨hk, e⟩ := List.getElem?_eq_some_iff.1 h
  rw [List.take_succ_eq_append_getElem hk, e]
  unfold allZ
  rw [List.foldl_append]
  rfl

set_option maxHeartbeats 2000000 in
theorem all_any (r c : Int) (A : Option Addr) (l : List (Int × Int × Int)) (n cp : Nat) (hn : n = l.length) (hm : n ≤ 1000000) (w : World) (hR : RSh w w.heap.size A l) :
    Calls Try.prog 18 #[.agg #[.int .i64 r, .int .i64 c], .slice A n cp] w fun e w' => e = .returned (.agg #[.int .i64 (allZ (r, c) l).1, .int .i64 (allZ (r, c) l).2]) ∧ Below w.heap.size w w' := by
  have HR := Lib.hid hR
  have HN := Lib.hid hn
  clear hR hn
  go_enter Try.func18, Try.ntmps18
  go_wp2
  go_loopw [9] (fun is wr => ∃ (k : Nat) (x y : Int), is = .int .i64 k ∧ k ≤ n ∧ Hid ((x, y) = allZ (r, c) (l.take k)) ∧ Hid (PB wr w.heap.size x y) ∧ Hid (PB wr (w.heap.size + 1) 0 0) ∧ Hid (Below w.heap.size w wr)) (fun is _ => n - (intOf is).toNat)
  case atStart =>
    refine ⟨0, r, c, rfl, Nat.zero_le _, Lib.hid rfl, Lib.hid ((PB.new w r c).alloc _), Lib.hid ?_, Lib.hid (belA (belA (Below.refl _ _) _) _)⟩
    have h := PB.new (w.alloc (.cells #[.int .i64 r, .int .i64 c] 23)) 0 0
    rwa [show (w.alloc (.cells #[.int .i64 r, .int .i64 c] 23)).heap.size = w.heap.size + 1 by simp] at h
  case round =>
    obtain ⟨k, x, y, rfl, hk, HX, HP, HQ, HB⟩ := hrel
    by_cases hlt : k < n
    · obtain ⟨b, off, a1, a2, a3, rfl, hbl, hl, k0, k1, k2⟩ := HR.out.at HB.out k (by have := HN.out; omega)
      have hki : (k : Int) < n := by omega
      have HXN : Hid (allZ (r, c) (l.take (k + 1)) = moveZ x y a1 a2 a3) := Lib.hid (by rw [allZ_snoc _ _ _ _ _ _ hl, ← HX.out])
      have HM := Lib.hid (move_any x y a1 a2 a3)
      obtain ⟨x', hx'⟩ : ∃ x', (moveZ x y a1 a2 a3).1 = x' := ⟨_, rfl⟩
      obtain ⟨y', hy'⟩ : ∃ y', (moveZ x y a1 a2 a3).2 = y' := ⟨_, rfl⟩
      have HXY : Hid ((x', y') = allZ (r, c) (l.take (k + 1))) := Lib.hid (by rw [HXN.out, ← hx', ← hy'])
      rw [hx', hy'] at HM
      have p0 := HP.out.c0
      have p1 := HP.out.c1
      have hsz := HP.out.lt
      have hbw : b < wr.heap.size := Nat.lt_of_lt_of_le hbl HB.out.size
      clear hx' hy' HXN HX hl hbl
      go_wp2_with (go_at_call 12; (with_reducible refine (HM.out _).mono ?_); rintro e w1 ⟨rfl, hb⟩; have HP1 := Lib.hid ((HP.out.alloc _).past hb); have HQ1 := Lib.hid ((HQ.out.alloc _).past hb); have HB1 := Lib.hid (bel1 HB.out hb); have c0 := HP1.out.c0; have c1 := HP1.out.c1; have cf := HP1.out.free; clear hb)
      go_roundw
      case rel => exact ⟨k + 1, x', y', by go_num, hlt, HXY, Lib.hid (HP1.out.set x' y'), Lib.hid ((HQ1.out.other _ _ (by omega)).other _ _ (by omega)), Lib.hid (belC (belC HB1.out (Nat.le_refl _)) (Nat.le_refl _))⟩
      case measure => simp [intOf]; omega
    · obtain rfl : k = n := by omega
      have HXL : Hid ((x, y) = allZ (r, c) l) := Lib.hid (by have := HX.out; rwa [HN.out, List.take_length] at this)
      have p0 := HP.out.c0
      have p1 := HP.out.c1
      have q0 := HQ.out.c0
      have q1 := HQ.out.c1
      have qf := HQ.out.free
      clear HX
      go_wp2
      refine bodyPost_ret (v := .agg #[.int .i64 x, .int .i64 y]) (by simp [results, Try.results18, go_sem, q0, q1]) rfl ⟨by rw [← HXL.out], ?_⟩
      exact belC (belC HB.out (by omega)) (by omega)
end Go.Proofs.Ytbloekdhafoniaa
