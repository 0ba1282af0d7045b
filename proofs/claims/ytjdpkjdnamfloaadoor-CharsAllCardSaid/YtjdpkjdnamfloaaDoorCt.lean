/- The walk of State.All. -/
import Derived.Test.YtjdpkjdnamfloaaDoorCo
namespace Go.Proofs.YtjdpkjdnamfloaaDoor
open Go.RowKit Go.Shelf

theorem Tryd.infoRune : (Tryd.prog.info? 21).map (fun i => (i.zero, i.size, i.bytes)) = some (some (.int .i32 0), 1, 4) := by kernel_rfl
/-- The slice value '.slice A xs.length c' reads as the numbers xs; it lies below block B. -/
def RS (w : World) (B : Nat) (A : Option Addr) (xs : List Int) : Prop :=
  xs ≠ [] → ∃ b off, A = some ⟨b, off, none⟩ ∧ b < B ∧ ∀ k, k < xs.length → w.cell? ⟨b, off + k, none⟩ = some (.int .i32 (xs[k]?.getD 0))
theorem RS.below {w w' : World} {B : Nat} {A : Option Addr} {xs : List Int} (h : RS w B A xs) (hb : Below B w w') : RS w' B A xs := fun hn => by
  obtain ⟨b, off, e, hlt, hc⟩ := h hn
  exact ⟨b, off, e, hlt, fun k hk => (hb.cell (p := ⟨b, off + k, none⟩) hlt).trans (hc k hk)⟩
theorem RS.more {w : World} {B B' : Nat} {A : Option Addr} {xs : List Int} (h : RS w B A xs) (hB : B ≤ B') : RS w B' A xs := fun hn => by
  obtain ⟨b, off, e, hlt, hc⟩ := h hn
  exact ⟨b, off, e, Nat.lt_of_lt_of_le hlt hB, hc⟩
theorem take_snocD (xs : List Int) (k : Nat) (h : k < xs.length) : xs.take (k + 1) = xs.take k ++ [xs[k]?.getD 0] := by
  rw [List.take_succ_eq_append_getElem h, List.getElem?_eq_getElem h]; rfl
/-- Which set is meant once k scalars have come. -/
def onceK (o : Int) (k : Nat) : Int := if k = 0 then o else 0
/-- What scalars print as. -/
def outL (a b c d u o : Int) (xs : List Int) : List Int := xs.mapIdx fun k r => printZ (setZ a b c d (meantZ u (onceK o k))) r
theorem outL_snoc (a b c d u o : Int) (xs : List Int) (r : Int) : outL a b c d u o (xs ++ [r]) = outL a b c d u o xs ++ [printZ (setZ a b c d (meantZ u (onceK o xs.length))) r] := by
  unfold outL
  rw [List.mapIdx_append]
  simp
theorem outL_len (a b c d u o : Int) (xs : List Int) : (outL a b c d u o xs).length = xs.length := by unfold outL; simp
theorem outL_take (a b c d u o : Int) (xs : List Int) (k : Nat) (h : k < xs.length) : outL a b c d u o (xs.take (k + 1)) = outL a b c d u o (xs.take k) ++ [printZ (setZ a b c d (meantZ u (onceK o k))) (xs[k]?.getD 0)] := by
  rw [take_snocD xs k h, outL_snoc, List.length_take, Nat.min_eq_left (by omega)]

theorem BoxAt.grown {w W W' : World} {g : Nat} {v0 v1 v2 v3 v4 v5 : Value} {row : Option Nat} (h : BoxAt w W g v0 v1 v2 v3 v4 v5) (hg : W.grownBy W' row) (hr : row ≠ some g) (hrow : ∀ k, row = some k → w.heap.size ≤ k) : BoxAt w W' g v0 v1 v2 v3 v4 v5 := by
  have hb := hg.block g h.lt (fun e => hr e.symm)
  have c : ∀ k, W'.cell? ⟨g, k, none⟩ = W.cell? ⟨g, k, none⟩ := fun k => World.cell?_of_block (w := W) (a := ⟨g, k, none⟩) hb
  have f : ∀ k, W'.frozen? ⟨g, k, none⟩ = W.frozen? ⟨g, k, none⟩ := fun k => World.frozen?_of_block (w := W) (a := ⟨g, k, none⟩) hb
  exact ⟨h.below.grown hg h.below.size hrow, h.new, Nat.lt_of_lt_of_le h.lt hg.size, (c 0).trans h.c0, (c 1).trans h.c1, (c 2).trans h.c2, (c 3).trans h.c3, (c 4).trans h.c4, (c 5).trans h.c5, fun k => (f k).trans (h.free k)⟩
theorem grown_of_below {w w' : World} (hb : Below w.heap.size w w') : w.grownBy w' none := ⟨hb.os, hb.tape, hb.output, hb.size, fun k hk _ => hb.block k hk⟩
theorem grownT {a b c : World} {o : Option Nat} (h : a.grownBy b o) (h' : b.grownBy c o) : a.grownBy c o :=
  ⟨h'.os.trans h.os, h'.tape.trans h.tape, h'.output.trans h.output, Nat.le_trans h.size h'.size, fun k hk hn => (h'.block k (Nat.lt_of_lt_of_le hk h.size) hn).trans (h.block k hk hn)⟩
theorem grown1 (X : World) (g i : Nat) (v : Value) : X.grownBy (X.setCell ⟨g, i, none⟩ v) (some g) :=
  ⟨rfl, rfl, rfl, by simp, fun k _ hne => heap_setCell_other X ⟨g, i, none⟩ k v (fun e => hne (by rw [e]))⟩
theorem grown_row6 {W : World} (g : Nat) (v0 v1 v2 v3 v4 v5 : Value) : W.grownBy ((((((W.setCell ⟨g, 0, none⟩ v0).setCell ⟨g, 1, none⟩ v1).setCell ⟨g, 2, none⟩ v2).setCell ⟨g, 3, none⟩ v3).setCell ⟨g, 4, none⟩ v4).setCell ⟨g, 5, none⟩ v5) (some g) :=
  grownT (grownT (grownT (grownT (grownT (grown1 _ _ _ _) (grown1 _ _ _ _)) (grown1 _ _ _ _)) (grown1 _ _ _ _)) (grown1 _ _ _ _)) (grown1 _ _ _ _)

theorem news5 {W : World} {n : Nat} (h : W.heap.size = n) (p : Int) : ∀ (j : Nat) (u : Value), [Value.int .i32 p][j]? = some u → (W.alloc (.cells #[.int .i32 p] 21)).cell? ((⟨n, 0, none⟩ : Addr).add j) = some u := fun j u hj => by
  subst h
  match j, hj with
  | 0, hj =>
    simp at hj
    subst hj
    exact (cell_of_row _ _ _ _ _ _ (heap_alloc_new W _)).trans rfl
def AllPost (a b c d u o : Int) (xs : List Int) (w : World) (e : Ending) (w' : World) : Prop :=
  ∃ v, e = .returned (.tuple #[v, .agg #[.int .i64 a, .int .i64 b, .int .i64 c, .int .i64 d, .int .i64 u, .int .i64 (onceK o xs.length)]]) ∧ w'.ownsRow w.heap.size 21 1 v xs.length ((outL a b c d u o xs).map (Value.int .i32)) ∧ Below w.heap.size w w'

theorem size6 (W : World) (g : Nat) (v0 v1 v2 v3 v4 v5 : Value) : ((((((W.setCell ⟨g, 0, none⟩ v0).setCell ⟨g, 1, none⟩ v1).setCell ⟨g, 2, none⟩ v2).setCell ⟨g, 3, none⟩ v3).setCell ⟨g, 4, none⟩ v4).setCell ⟨g, 5, none⟩ v5).heap.size = W.heap.size := by simp
theorem after_map {w wr w3 : World} {a b c d u q : Int} {vo : Value} {k : Nat} {L : List Value} (HS : BoxAt w wr w.heap.size (.int .i64 a) (.int .i64 b) (.int .i64 c) (.int .i64 d) (.int .i64 u) (.int .i64 q)) (HZ : BoxAt w wr (w.heap.size + 1) (.int .i64 0) (.int .i64 0) (.int .i64 0) (.int .i64 0) (.int .i64 0) (.int .i64 0)) (HO : wr.ownsRow (w.heap.size + 2) 21 1 vo k L) (hb3 : Below wr.heap.size wr w3) (p : Int) :
    BoxAt w (((((((w3.setCell ⟨w.heap.size, 0, none⟩ (.int .i64 a)).setCell ⟨w.heap.size, 1, none⟩ (.int .i64 b)).setCell ⟨w.heap.size, 2, none⟩ (.int .i64 c)).setCell ⟨w.heap.size, 3, none⟩ (.int .i64 d)).setCell ⟨w.heap.size, 4, none⟩ (.int .i64 u)).setCell ⟨w.heap.size, 5, none⟩ (.int .i64 0)).alloc (.cells #[.int .i32 p] 21)) w.heap.size (.int .i64 a) (.int .i64 b) (.int .i64 c) (.int .i64 d) (.int .i64 u) (.int .i64 0) ∧ BoxAt w (((((((w3.setCell ⟨w.heap.size, 0, none⟩ (.int .i64 a)).setCell ⟨w.heap.size, 1, none⟩ (.int .i64 b)).setCell ⟨w.heap.size, 2, none⟩ (.int .i64 c)).setCell ⟨w.heap.size, 3, none⟩ (.int .i64 d)).setCell ⟨w.heap.size, 4, none⟩ (.int .i64 u)).setCell ⟨w.heap.size, 5, none⟩ (.int .i64 0)).alloc (.cells #[.int .i32 p] 21)) (w.heap.size + 1) (.int .i64 0) (.int .i64 0) (.int .i64 0) (.int .i64 0) (.int .i64 0) (.int .i64 0) ∧ (((((((w3.setCell ⟨w.heap.size, 0, none⟩ (.int .i64 a)).setCell ⟨w.heap.size, 1, none⟩ (.int .i64 b)).setCell ⟨w.heap.size, 2, none⟩ (.int .i64 c)).setCell ⟨w.heap.size, 3, none⟩ (.int .i64 d)).setCell ⟨w.heap.size, 4, none⟩ (.int .i64 u)).setCell ⟨w.heap.size, 5, none⟩ (.int .i64 0)).alloc (.cells #[.int .i32 p] 21)).ownsRow (w.heap.size + 2) 21 1 vo k L ∧ (∀ (j : Nat) (z : Value), [Value.int .i32 p][j]? = some z → (((((((w3.setCell ⟨w.heap.size, 0, none⟩ (.int .i64 a)).setCell ⟨w.heap.size, 1, none⟩ (.int .i64 b)).setCell ⟨w.heap.size, 2, none⟩ (.int .i64 c)).setCell ⟨w.heap.size, 3, none⟩ (.int .i64 d)).setCell ⟨w.heap.size, 4, none⟩ (.int .i64 u)).setCell ⟨w.heap.size, 5, none⟩ (.int .i64 0)).alloc (.cells #[.int .i32 p] 21)).cell? ((⟨w3.heap.size, 0, none⟩ : Addr).add j) = some z) ∧ w.heap.size + 2 ≤ (((((((w3.setCell ⟨w.heap.size, 0, none⟩ (.int .i64 a)).setCell ⟨w.heap.size, 1, none⟩ (.int .i64 b)).setCell ⟨w.heap.size, 2, none⟩ (.int .i64 c)).setCell ⟨w.heap.size, 3, none⟩ (.int .i64 d)).setCell ⟨w.heap.size, 4, none⟩ (.int .i64 u)).setCell ⟨w.heap.size, 5, none⟩ (.int .i64 0)).alloc (.cells #[.int .i32 p] 21)).heap.size := by
  have hs3 := HS.past hb3
  have hz3 := HZ.past hb3
  have ho3 := HO.kept (grown_of_below hb3) (by cases vo.ownBlock <;> simp)
  have hg : w3.grownBy ((((((w3.setCell ⟨w.heap.size, 0, none⟩ (.int .i64 a)).setCell ⟨w.heap.size, 1, none⟩ (.int .i64 b)).setCell ⟨w.heap.size, 2, none⟩ (.int .i64 c)).setCell ⟨w.heap.size, 3, none⟩ (.int .i64 d)).setCell ⟨w.heap.size, 4, none⟩ (.int .i64 u)).setCell ⟨w.heap.size, 5, none⟩ (.int .i64 0)) (some w.heap.size) := grown_row6 _ _ _ _ _ _ _
  have hal := (Below.refl ((((((w3.setCell ⟨w.heap.size, 0, none⟩ (.int .i64 a)).setCell ⟨w.heap.size, 1, none⟩ (.int .i64 b)).setCell ⟨w.heap.size, 2, none⟩ (.int .i64 c)).setCell ⟨w.heap.size, 3, none⟩ (.int .i64 d)).setCell ⟨w.heap.size, 4, none⟩ (.int .i64 u)).setCell ⟨w.heap.size, 5, none⟩ (.int .i64 0)).heap.size ((((((w3.setCell ⟨w.heap.size, 0, none⟩ (.int .i64 a)).setCell ⟨w.heap.size, 1, none⟩ (.int .i64 b)).setCell ⟨w.heap.size, 2, none⟩ (.int .i64 c)).setCell ⟨w.heap.size, 3, none⟩ (.int .i64 d)).setCell ⟨w.heap.size, 4, none⟩ (.int .i64 u)).setCell ⟨w.heap.size, 5, none⟩ (.int .i64 0))).alloc (Nat.le_refl _) (.cells #[.int .i32 p] 21)
  refine ⟨(box_set hs3 _ _ _ _ _ _).past hal, (hz3.grown hg (by simp) (fun k e => by cases e; exact Nat.le_refl _)).past hal, (ho3.kept hg (.inr (fun e => ?_))).alloc _, news5 (size6 _ _ _ _ _ _ _ _) p, ?_⟩
  · have := (ho3.lt _ e).1
    omega
  · have := hz3.lt
    simp
    omega

theorem own_mono {w : World} {B B' : Nat} {e : TypeId} {z : Nat} {v : Value} {n : Nat} {L : List Value} (h : w.ownsRow B e z v n L) (hb : B' ≤ B) : w.ownsRow B' e z v n L :=
  ⟨h.1, h.2.imp id fun ⟨g, cap, cur, a1, a2, a3⟩ => ⟨g, cap, cur, a1, Nat.le_trans hb a2, a3⟩⟩
theorem all_end {w wr : World} {vo : Value} {k : Nat} {L : List Value} {u0 u1 u2 u3 u4 u5 : Value} (HZ : BoxAt w wr (w.heap.size + 1) u0 u1 u2 u3 u4 u5) (HO : wr.ownsRow (w.heap.size + 2) 21 1 vo k L) (v0 v1 v2 v3 v4 v5 : Value) :
    ((((((wr.setCell ⟨w.heap.size + 1, 0, none⟩ v0).setCell ⟨w.heap.size + 1, 1, none⟩ v1).setCell ⟨w.heap.size + 1, 2, none⟩ v2).setCell ⟨w.heap.size + 1, 3, none⟩ v3).setCell ⟨w.heap.size + 1, 4, none⟩ v4).setCell ⟨w.heap.size + 1, 5, none⟩ v5).ownsRow w.heap.size 21 1 vo k L ∧ Below w.heap.size w ((((((wr.setCell ⟨w.heap.size + 1, 0, none⟩ v0).setCell ⟨w.heap.size + 1, 1, none⟩ v1).setCell ⟨w.heap.size + 1, 2, none⟩ v2).setCell ⟨w.heap.size + 1, 3, none⟩ v3).setCell ⟨w.heap.size + 1, 4, none⟩ v4).setCell ⟨w.heap.size + 1, 5, none⟩ v5) :=
  ⟨own_mono (HO.kept (grown_row6 (w.heap.size + 1) v0 v1 v2 v3 v4 v5) (.inr (fun e => by
    have := (HO.lt _ e).1
    omega))) (Nat.le_add_right _ 2), (box_set HZ v0 v1 v2 v3 v4 v5).below⟩

set_option maxRecDepth 100000 in
set_option maxHeartbeats 8000000 in
theorem all_any (a b c d u o : Int) (A : Option Addr) (xs : List Int) (n cp : Nat) (hn : n = xs.length) (hlen : n ≤ 100000) (w : World) (hT : CT w) (hR : RS w w.heap.size A xs) :
    Calls Tryd.prog 21 #[.agg #[.int .i64 a, .int .i64 b, .int .i64 c, .int .i64 d, .int .i64 u, .int .i64 o], .slice A n cp] w (AllPost a b c d u o xs w) := by
  obtain ⟨i0, hi, hz0, hz1, hz2⟩ := info_parts Tryd.infoRune
  have HM : Hid (∀ (W : World) (q r : Int), Below w.heap.size w W → Calls Tryd.prog 8 #[.agg #[.int .i64 a, .int .i64 b, .int .i64 c, .int .i64 d, .int .i64 u, .int .i64 q], .int .i32 r] W fun e w' => e = .returned (.tuple #[.int .i32 (printZ (setZ a b c d (meantZ u q)) r), .agg #[.int .i64 a, .int .i64 b, .int .i64 c, .int .i64 d, .int .i64 u, .int .i64 0]]) ∧ Below W.heap.size W w') := Lib.hid fun W q r hW => map_any a b c d u q r W (hT.below hW)
  have HR := Lib.hid hR
  have HN := Lib.hid hn
  have HS0 : Hid (BoxAt w ((w.alloc (.cells #[.int .i64 a, .int .i64 b, .int .i64 c, .int .i64 d, .int .i64 u, .int .i64 o] 24)).alloc (.cells #[.int .i64 0, .int .i64 0, .int .i64 0, .int .i64 0, .int .i64 0, .int .i64 0] 24)) w.heap.size (.int .i64 a) (.int .i64 b) (.int .i64 c) (.int .i64 d) (.int .i64 u) (.int .i64 o)) := Lib.hid ((box_new (Below.refl _ w)).past ((Below.refl _ _).alloc (Nat.le_refl _) _))
  have HZ0 : Hid (BoxAt w ((w.alloc (.cells #[.int .i64 a, .int .i64 b, .int .i64 c, .int .i64 d, .int .i64 u, .int .i64 o] 24)).alloc (.cells #[.int .i64 0, .int .i64 0, .int .i64 0, .int .i64 0, .int .i64 0, .int .i64 0] 24)) (w.heap.size + 1) (.int .i64 0) (.int .i64 0) (.int .i64 0) (.int .i64 0) (.int .i64 0) (.int .i64 0)) := Lib.hid (by
    have := box_new (w := w) (W := w.alloc (.cells #[.int .i64 a, .int .i64 b, .int .i64 c, .int .i64 d, .int .i64 u, .int .i64 o] 24)) (v0 := .int .i64 0) (v1 := .int .i64 0) (v2 := .int .i64 0) (v3 := .int .i64 0) (v4 := .int .i64 0) (v5 := .int .i64 0) (t := 24) (belA (Below.refl _ w) _)
    simpa using this)
  clear hn hR hT
  unfold AllPost
  go_enter Tryd.func21, Tryd.ntmps21
  go_wp2
  go_loopw [6, 11] (fun v i wr => ∃ (k : Nat) (vo : Value), vo = v ∧ k ≤ n ∧ i = .int .i64 k ∧ Hid (BoxAt w wr w.heap.size (.int .i64 a) (.int .i64 b) (.int .i64 c) (.int .i64 d) (.int .i64 u) (.int .i64 (onceK o k))) ∧ Hid (BoxAt w wr (w.heap.size + 1) (.int .i64 0) (.int .i64 0) (.int .i64 0) (.int .i64 0) (.int .i64 0) (.int .i64 0)) ∧ Hid (wr.ownsRow (w.heap.size + 2) 21 1 vo k ((outL a b c d u o (xs.take k)).map (Value.int .i32)))) (fun _ i _ => n - (intOf i).toNat)
  case atStart => exact ⟨0, _, rfl, Nat.zero_le _, rfl, HS0, HZ0, Lib.hid (World.ownsRow_nil _ _ _ _)⟩
  case round =>
    obtain ⟨k, vo, rfl, hkn, rfl, HS, HZ, HO⟩ := hrel
    by_cases hlt : k < n
    · have hkz : k < xs.length := by rw [← HN.out]; exact hlt
      obtain ⟨b', off, rfl, hbl, hc⟩ := HR.out (by rintro rfl; simp at hkz)
      have hck := (HS.out.below.cell (p := ⟨b', off + k, none⟩) hbl).trans (hc k hkz)
      have HOUT := Lib.hid (outL_take a b c d u o xs k hkz)
      have hki : (k : Int) < n := by omega
      have hp1 : k + 1 ≤ maxLen := by unfold maxLen; omega
      have hp2 : (k + 1) * 4 ≤ 140737488355328 := by omega
      have n0 := HS.out.c0
      have n1 := HS.out.c1
      have n2 := HS.out.c2
      have n3 := HS.out.c3
      have n4 := HS.out.c4
      have n5 := HS.out.c5
      clear hc hbl hkz
      generalize xs[k]?.getD 0 = r at *
      have hm := HM.out wr (onceK o k) r HS.out.below
      generalize onceK o k = q at *
      generalize printZ (setZ a b c d (meantZ u q)) r = p at *
      go_wp2_with (first
        | (go_at_call 8; (with_reducible refine hm.mono ?_); clear hm; rintro e w3 ⟨rfl, hb3⟩; (have HF := Lib.hid (after_map HS.out HZ.out HO.out hb3 p); have hs3 := HS.out.past hb3; clear n0 n1 n2 n3 n4 n5; have n0 := hs3.c0; have n1 := hs3.c1; have n2 := hs3.c2; have n3 := hs3.c3; have n4 := hs3.c4; have n5 := hs3.c5; have hfz := hs3.free; have hzz := hs3.lt; clear hs3))
        | (at_builtin; go_must (refine wpList_append_own _ rfl _ _ 44 rfl (w.heap.size + 2) 21 i0 (.int .i32 0) 1 4 Tryd.underlying44 hi hz0 hz1 hz2 rfl (by decide) vo k ((outL a b c d u o (xs.take k)).map (Value.int .i32)) rfl HF.out.2.2.1 ⟨w3.heap.size, 0, none⟩ 1 1 [.int .i32 p] rfl rfl HF.out.2.2.2.1 (by simp [Value.oneCell']) hp1 hp2 HF.out.2.2.2.2 ?_; intro v2 w4 hown2 hgrow2 _; have HS4 := Lib.hid ((HF.out.1).grown hgrow2 (fun e => by have := (HF.out.2.2.1.lt _ e).1; omega) (fun k e => by have := (HF.out.2.2.1.lt _ e).1; omega)); have HZ4 := Lib.hid ((HF.out.2.1).grown hgrow2 (fun e => by have := (HF.out.2.2.1.lt _ e).1; omega) (fun k e => by have := (HF.out.2.2.1.lt _ e).1; omega)); have HO4 := Lib.hid hown2; clear hgrow2 hown2)))
      go_roundw
      case rel =>
        have h0 : onceK o (k + 1) = 0 := if_neg (Nat.succ_ne_zero k)
        refine ⟨k + 1, v2, rfl, hlt, by go_num, ?_, HZ4, ?_⟩
        · rw [h0]
          exact HS4
        · rw [HOUT.out, List.map_append]
          exact HO4
      case measure => simp [intOf]; omega
    · obtain rfl : k = n := by omega
      have n0 := HS.out.c0
      have n1 := HS.out.c1
      have n2 := HS.out.c2
      have n3 := HS.out.c3
      have n4 := HS.out.c4
      have n5 := HS.out.c5
      have hfz := HS.out.free
      have hzz := HS.out.lt
      have HTK := Lib.hid (List.take_of_length_le (Nat.le_of_eq HN.out.symm))
      have m0 := HZ.out.c0
      have m1 := HZ.out.c1
      have m2 := HZ.out.c2
      have m3 := HZ.out.c3
      have m4 := HZ.out.c4
      have m5 := HZ.out.c5
      have mfz := HZ.out.free
      have mzz := HZ.out.lt
      generalize hq : onceK o k = q at *
      have HQ := Lib.hid hq
      clear hq
      go_upto_region 8 with fail
      go_region
      all_goals
        go_wp2
        refine bodyPost_ret (v := .tuple #[vo, .agg #[.int .i64 a, .int .i64 b, .int .i64 c, .int .i64 d, .int .i64 u, .int .i64 q]]) (by simp [results, Tryd.results21, go_sem, m0, m1, m2, m3, m4, m5]) rfl ⟨vo, (by rw [← HN.out, HQ.out]), ?_⟩
        rw [← HN.out, ← HTK.out]
        first
          | (with_reducible exact all_end HZ.out HO.out _ _ _ _ _ _)
          | (exact ⟨(all_end HZ.out HO.out _ _ _ _ _ _).1.drew, (all_end HZ.out HO.out _ _ _ _ _ _).2.drew⟩)

end Go.Proofs.YtjdpkjdnamfloaaDoor
