/- The walk of the reference's Push. -/
import Derived.Test.YtehfejgalemhaaaNy
import Derived.Test.YtehfejgalemhaaaNe
namespace Go.Proofs.Ytehfejgalemhaaa
open Go.RowKit

theorem grown_drew' {w w' : World} {r : Option Nat} (h : w.drew.grownBy w' r) : w.grownBy w' r := ⟨h.os, h.tape, h.output, h.size, h.block⟩
theorem rpush_mid {P : Nat → Prop} {w w6 : World} {D : Nat} {v v6 v1 v2 : Value} {room : Nat} {gone : Int} {L : List (Int × Bool)} {xs : List Value} {r : Int × Bool} (h : RF P w D v room gone L xs) (hr : RV P w v1 v2 r) (o : Obj)
    (ho6 : OR w6 v6 (L.length + 1) (xs ++ [v1, v2])) (hg6 : (((w.alloc (.cells #[v1, v2] 43)).alloc (.cells #[.slice none 0 0, .bool false] 43)).alloc o).grownBy w6 v.ownBlock) (hor : v6.ownBlock = v.ownBlock ∨ v6.ownBlock = some (((w.alloc (.cells #[v1, v2] 43)).alloc (.cells #[.slice none 0 0, .bool false] 43)).alloc o).heap.size) :
    (w6.cell? ⟨D, 1, none⟩ = some v ∧ w6.frozen? ⟨D, 1, none⟩ = false) ∧ RF P (w6.setCell ⟨D, 1, none⟩ v6) D v6 room gone (L ++ [r]) (xs ++ [v1, v2]) ∧ KB (fun i => i = D ∨ some i = v.ownBlock) w (w6.setCell ⟨D, 1, none⟩ v6) ∧
      (w6.setCell ⟨D, 1, none⟩ v6).heap[w.heap.size]? = some (.cells #[v1, v2] 43 (0, 0)) ∧ (w6.setCell ⟨D, 1, none⟩ v6).heap[w.heap.size + 1]? = some (.cells #[.slice none 0 0, .bool false] 43 (0, 0)) ∧
      (v6.ownBlock = v.ownBlock ∨ ∃ g, v6.ownBlock = some g ∧ w.heap.size + 1 < g) := by
  have hlt := h.lt
  obtain ⟨a1, a2, _⟩ := heap3 w (.cells #[v1, v2] 43) (.cells #[.slice none 0 0, .bool false] 43) o
  have hA : Below w.heap.size w (((w.alloc (.cells #[v1, v2] 43)).alloc (.cells #[.slice none 0 0, .bool false] 43)).alloc o) := belA (belA (belA (Below.refl _ _) _) _) _
  have hs : (((w.alloc (.cells #[v1, v2] 43)).alloc (.cells #[.slice none 0 0, .bool false] 43)).alloc o).heap.size = w.heap.size + 1 + 1 + 1 := by simp only [World.size_alloc]
  have h5 := h.past hA
  have hr5 := hr.past hA
  generalize ((w.alloc (.cells #[v1, v2] 43)).alloc (.cells #[.slice none 0 0, .bool false] 43)).alloc o = wA at *
  have hvlt : ∀ i, some i = v.ownBlock → i < w.heap.size := fun i e => (h.rows.lt i e.symm).1
  have hvD : some D ≠ v.ownBlock := fun e => h.ne D e.symm rfl
  have hd6 : w6.heap[D]? = _ := (hg6.block D (by omega) hvD).trans h5.d
  have hk6 : KB (fun i => i = D ∨ some i = v.ownBlock) wA w6 := KB.of_grown hg6 fun i e => .inr e
  have hk7 : KB (fun i => i = D ∨ some i = v.ownBlock) w6 (w6.setCell ⟨D, 1, none⟩ v6) := KB.set 1 v6 (.inl rfl)
  have hkk : KB (fun i => i = D ∨ some i = v.ownBlock) wA (w6.setCell ⟨D, 1, none⟩ v6) := hk6.trans hk7 fun _ _ e => e
  have hnc5 := h5.nc P
  have hv6 : ∀ g, v6.ownBlock = some g → g ≠ D := fun g e e2 => by
    rcases hor with e3 | e3
    · exact h.ne g (e3.symm.trans e) e2
    · rw [e3] at e; injection e with e; omega
  refine ⟨⟨cell_of_row _ _ 1 _ _ _ hd6, by simp [World.frozen?, hd6]⟩, ⟨(heap_set_ref hd6 v6).1, ?_, RS.snoc (hr5.kept hkk hnc5) (h5.each.map fun _ _ _ q => q.kept hkk hnc5)⟩, (KB.of_below hA).trans hkk fun _ _ e => e, ?_, ?_, ?_⟩
  · rw [List.length_append]
    exact ho6.kept (KB.set (S := fun i => i = D) 1 v6 rfl) (fun g e e2 => hv6 g e e2)
  · refine (hkk.block _ (by omega) (fun e => ?_)).trans a1
    rcases e with e | e
    · omega
    · have := hvlt _ e; omega
  · refine (hkk.block _ (by omega) (fun e => ?_)).trans a2
    rcases e with e | e
    · omega
    · have := hvlt _ e; omega
  · rcases hor with e | e
    · exact .inl e
    · exact .inr ⟨_, e, by omega⟩
theorem RF.after {P : Nat → Prop} {w7 : World} {D : Nat} {v : Value} {room : Nat} {gone : Int} {L : List (Int × Bool)} {xs : List Value} (h : RF P w7 D v room gone L xs) (M : Nat) {cur : Array Value} (hM : w7.heap[M]? = some (.cells cur 43 (0, 0))) (hMD : M ≠ D) (hMg : ∀ g, v.ownBlock = some g → g ≠ M) (x y : Value) :
    RF P ((w7.drew.setCell ⟨M, 0, none⟩ x).setCell ⟨M, 1, none⟩ y) D v room gone L xs ∧ KB (fun i => i = M) w7 ((w7.drew.setCell ⟨M, 0, none⟩ x).setCell ⟨M, 1, none⟩ y) := by
  have hd : KB (fun i => i = M) w7 w7.drew := KB.of_below (Below.refl _ _).drew
  have hk := hd.trans ((KB.set (S := fun i => i = M) (w := w7.drew) 0 x rfl).trans (KB.set (S := fun i => i = M) 1 y rfl) fun _ _ e => e) fun _ _ e => e
  refine ⟨h.kept hk (fun e => hMD e.symm) hMg (fun i c hi hS _ hc => ?_), hk⟩
  subst hS
  rw [hM] at hc
  injection hc with hc
  injection hc with _ e _
  exact absurd e (by decide)
theorem fresh2 {w w5 : World} {o1 o2 : Obj} (hg : ((w.alloc o1).alloc o2).grownBy w5 (some (w.heap.size + 1))) : Below w.heap.size w w5 ∧ w5.heap[w.heap.size]? = some o1 := by
  have h1 := heap_alloc_new w o1
  exact ⟨(belA (belA (Below.refl w.heap.size w) o1) o2).grown hg (by simp only [World.size_alloc]; omega) (fun k e => by cases e; omega), (hg.block _ (by simp only [World.size_alloc]; omega) (by simp)).trans ((heap_alloc_old _ o2 (by simp)).trans h1)⟩
theorem own_empty2 (w : World) (o1 : Obj) : ((w.alloc o1).alloc (.cells #[] 43)).ownsRow w.heap.size 43 2 (.slice (some ⟨w.heap.size + 1, 0, none⟩) 0 0) 0 [] := by
  have h := World.ownsRow_made (e := 43) (size := 2) (base := w.heap.size) (w.alloc o1) #[] 0 (by simp only [World.size_alloc]; omega) (by unfold maxLen; omega) rfl
  simpa using h
/-- The reference's ring behind an eviction: rows, count, answer. -/
def evW (w9 : World) (D N : Nat) (v9 : Value) (g : Int) (a b : Value) : World := (((w9.setCell ⟨D, 1, none⟩ v9).setCell ⟨D, 2, none⟩ (.int .u64 g)).setCell ⟨N, 0, none⟩ a).setCell ⟨N, 1, none⟩ b
/-- The reference's eldest row is gone. -/
theorem RF.evicted {P : Nat → Prop} {w8 w9 : World} {D N : Nat} {v : Value} {room : Nat} {gone : Int} {L0 : List (Int × Bool)} {xs0 : List Value} (h : RF P w8 D v room gone L0 xs0) {p q a b : Value} {t : TypeId} (hN : w8.heap[N]? = some (.cells #[p, q] 43 (0, 0))) (hND : N ≠ D) {r : Int × Bool} (hr : RV P w8 a b r) {T : List (Int × Bool)} {ys : List Value} (hs : RS P w8 ys T)
    (hg : ((w8.alloc (.cells #[a, b] t)).alloc (.cells #[] 43)).grownBy w9 (some (w8.heap.size + 1))) {v9 : Value} {n : Nat} (hn : n = T.length) (ho : w9.ownsRow w8.heap.size 43 2 v9 (0 + n) ([] ++ ys)) (gone' : Int) :
    (w9.cell? ⟨w8.heap.size, 0, none⟩ = some a ∧ w9.cell? ⟨w8.heap.size, 1, none⟩ = some b) ∧ (w9.cell? ⟨N, 0, none⟩ = some p ∧ w9.cell? ⟨N, 1, none⟩ = some q ∧ ∀ k, w9.frozen? ⟨N, k, none⟩ = false) ∧ (w9.cell? ⟨D, 1, none⟩ = some v ∧ w9.cell? ⟨D, 2, none⟩ = some (.int .u64 gone) ∧ ∀ k, w9.frozen? ⟨D, k, none⟩ = false) ∧ ∃ A9 c9, v9 = .slice A9 n c9 ∧
    Hid ((RF P (evW w9 D N (.slice A9 n c9) gone' a b) D (.slice A9 n c9) room gone' T ys ∧ RV P (evW w9 D N (.slice A9 n c9) gone' a b) a b r ∧ KB (fun i => i = D ∨ i = N) w8 (evW w9 D N (.slice A9 n c9) gone' a b)) ∧
      ((evW w9 D N (.slice A9 n c9) gone' a b).cell? ⟨N, 0, none⟩ = some a ∧ (evW w9 D N (.slice A9 n c9) gone' a b).cell? ⟨N, 1, none⟩ = some b) ∧ ∀ g, (Value.slice A9 n c9).ownBlock = some g → w8.heap.size ≤ g) := by
  subst hn
  simp only [Nat.zero_add, List.nil_append] at ho
  obtain ⟨hb, ht6⟩ := fresh2 hg
  have h9 := h.past hb
  have hNl : N < w8.heap.size := (Array.getElem?_eq_some_iff.1 hN).1
  have hN9 : w9.heap[N]? = some (.cells #[p, q] 43 (0, 0)) := (hb.block N hNl).trans hN
  obtain ⟨A9, c9, rfl⟩ := (OR.of_own ho).shape
  have hs9 : RS P w9 ys T := hs.map fun _ _ _ q => q.past hb
  have hr9a : RV P w9 a b r := hr.past hb
  have hnc1 : NC (fun i => i = D) P w9 := fun i cur hi hS hp => h9.nc P i cur hi (.inl hS) hp
  have c1 := h9.cells
  have hfr := fun g e => (ho.lt g e).1
  obtain ⟨q1, q2⟩ := h9.relaid (OR.of_own ho) hs9
  refine ⟨⟨cell_of_row _ _ 0 _ _ _ ht6, cell_of_row _ _ 1 _ _ _ ht6⟩, ⟨cell_of_row _ _ 0 _ _ _ hN9, cell_of_row _ _ 1 _ _ _ hN9, fun k => by simp [World.frozen?, hN9]⟩, ⟨c1.1.2.1, c1.1.2.2, c1.2⟩, A9, c9, rfl, Lib.hid ?_⟩
  unfold evW
  have hr9b := hr9a.kept q2 hnc1
  have hN1 := (q2.block _ (Array.getElem?_eq_some_iff.1 hN9).1 hND).trans hN9
  clear h9 hs9 hr9a hnc1 c1 hN9 hs hr ht6 hg
  generalize w9.setCell ⟨D, 1, none⟩ (.slice A9 T.length c9) = wc at *
  obtain ⟨q3, q4⟩ := q1.counted gone'
  have hnc2 : NC (fun i => i = D) P wc := fun i cur hi hS hp => q1.nc P i cur hi (.inl hS) hp
  have hr9 := hr9b.kept q4 hnc2
  have hN2 := (q4.block _ (Array.getElem?_eq_some_iff.1 hN1).1 hND).trans hN1
  have kD : KB (fun i => i = D) w8 wc := (KB.of_below hb).trans q2 fun _ _ e => e
  have kD2 : KB (fun i => i = D) w8 (wc.setCell ⟨D, 2, none⟩ (.int .u64 gone')) := kD.trans q4 fun _ _ e => e
  clear hnc2 hr9b q1 q2 q4 hN1 kD
  generalize wc.setCell ⟨D, 2, none⟩ (.int .u64 gone') = wd at *
  have hN3 := heap_setCell_same _ N 1 _ _ b (heap_setCell_same _ N 0 _ _ a hN2)
  have kN : KB (fun i => i = N) wd ((wd.setCell ⟨N, 0, none⟩ a).setCell ⟨N, 1, none⟩ b) := (KB.set (S := fun i => i = N) 0 a rfl).trans (KB.set (S := fun i => i = N) 1 b rfl) fun _ _ e => e
  have hnc : NC (fun i => i = N) P wd := fun i cur _ hS _ hc => by
    subst hS
    rw [hN2] at hc
    injection hc with hc
    injection hc with _ e _
    exact absurd e (by decide)
  refine ⟨⟨q3.kept kN (fun e => hND e.symm) (fun g e e2 => ?_) hnc, hr9.kept kN hnc, (kD2.wide (fun i => i = D ∨ i = N) fun _ e => .inl e).trans kN fun _ _ e => .inr e⟩, ⟨cell_of_row _ _ 0 _ _ _ hN3, cell_of_row _ _ 1 _ _ _ hN3⟩, hfr⟩
  have := hfr g e
  omega
def RPushPost (P : Nat → Prop) (w : World) (D : Nat) (v : Value) (room : Nat) (gone : Int) (L : List (Int × Bool)) (r : Int × Bool) (e : Ending) (w' : World) : Prop :=
  ∃ A c gone' L' xs' o1 o2 ok, e = .returned (.tuple #[.agg #[o1, o2], .bool ok]) ∧ RF P w' D (.slice A L'.length c) room gone' L' xs' ∧ KB (fun i => i = D ∨ some i = v.ownBlock) w w' ∧
    ((Value.slice A L'.length c).ownBlock = v.ownBlock ∨ ∀ g, (Value.slice A L'.length c).ownBlock = some g → w.heap.size ≤ g) ∧
    ((L.length + 1 ≤ room ∧ ok = false ∧ L' = L ++ [r] ∧ gone' = gone ∧ o1 = .slice none 0 0 ∧ o2 = .bool false) ∨
     (room < L.length + 1 ∧ ok = true ∧ L' = (L ++ [r]).tail ∧ gone' = IntKind.u64.wrap (gone + 1) ∧ RV P w' o1 o2 ((L ++ [r]).headD (0, false))))

end Go.Proofs.Ytehfejgalemhaaa
