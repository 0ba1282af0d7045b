/- Two rings side by side: the program's and the reference's; what each call makes of them. -/
import Derived.Test.YtehfejgalemhaaaOa
import Derived.Test.YtehfejgalemhaaaOb
import Derived.Test.YtehfejgalemhaaaNr
namespace Go.Proofs.Ytehfejgalemhaaa
open Go.RowKit

/-- The program's ring lies at D, the reference's at M; their slots are below B1 and B2. -/
def T2 (w0 w : World) (D M room : Nat) (g1 : Int) (L1 : List (Int × Bool)) (B1 : Nat) (g2 : Int) (L2 : List (Int × Bool)) (B2 : Nat) : Prop :=
  ∃ A c xs A' c' xs', RM (fun _ => True) w D (.slice A L1.length c) room g1 L1 xs ∧ RF (fun _ => True) w M (.slice A' L2.length c') room g2 L2 xs' ∧ Below w0.heap.size w0 w ∧ (w0.heap.size ≤ D ∧ D < B1 ∧ w0.heap.size ≤ M ∧ M < B2) ∧
    (∀ g, (Value.slice A L1.length c).ownBlock = some g → w0.heap.size ≤ g ∧ g < B1 ∧ (Value.slice A' L2.length c').ownBlock ≠ some g) ∧ (∀ g, (Value.slice A' L2.length c').ownBlock = some g → w0.heap.size ≤ g ∧ g < B2) ∧ B1 ≤ w.heap.size ∧ B2 ≤ w.heap.size
section
variable {w0 w w' : World} {D M room : Nat} {g1 : Int} {L1 : List (Int × Bool)} {B1 : Nat} {g2 : Int} {L2 : List (Int × Bool)} {B2 : Nat}
theorem T2.past (h : T2 w0 w D M room g1 L1 B1 g2 L2 B2) (hb : Below w.heap.size w w') : T2 w0 w' D M room g1 L1 B1 g2 L2 B2 := by
  obtain ⟨A, c, xs, A', c', xs', h1, h2, h3, h4, h5, h6, h7, h8⟩ := h
  exact ⟨A, c, xs, A', c', xs', h1.past hb, h2.past hb, bel0 h3 hb, h4, h5, h6, Nat.le_trans h7 hb.size, Nat.le_trans h8 hb.size⟩
theorem T2.below (h : T2 w0 w D M room g1 L1 B1 g2 L2 B2) : Below w0.heap.size w0 w := by
  obtain ⟨A, c, xs, A', c', xs', h1, h2, h3, _⟩ := h
  exact h3
theorem T2.sizes (h : T2 w0 w D M room g1 L1 B1 g2 L2 B2) : B1 ≤ w.heap.size ∧ B2 ≤ w.heap.size := by
  obtain ⟨A, c, xs, A', c', xs', h1, h2, h3, h4, h5, h6, h7⟩ := h
  exact h7
theorem ring_ne_ref {P P' : Nat → Prop} {v v' : Value} {xs xs' : List Value} (h1 : RM P w D v room g1 L1 xs) (h2 : RF P' w M v' room g2 L2 xs') : D ≠ M := fun e => by
  have a := h1.d
  rw [e, h2.d] at a
  injection a with a
  injection a with _ a _
  exact absurd a (by decide)
/-- A call has turned the program's ring. -/
theorem T2.stepR {A c xs A' c' xs'} (h1 : RM (fun _ => True) w D (.slice A L1.length c) room g1 L1 xs) (h2 : RF (fun _ => True) w M (.slice A' L2.length c') room g2 L2 xs') (h3 : Below w0.heap.size w0 w) (h4 : w0.heap.size ≤ D ∧ D < B1 ∧ w0.heap.size ≤ M ∧ M < B2)
    (h5 : ∀ g, (Value.slice A L1.length c).ownBlock = some g → w0.heap.size ≤ g ∧ g < B1 ∧ (Value.slice A' L2.length c').ownBlock ≠ some g) (h6 : ∀ g, (Value.slice A' L2.length c').ownBlock = some g → w0.heap.size ≤ g ∧ g < B2) (_h7 : B1 ≤ w.heap.size) (h8 : B2 ≤ w.heap.size)
    {Av : Option Addr} {cv : Nat} {g1' : Int} {L1' : List (Int × Bool)} {ys : List Value} (q1 : RM (fun _ => True) w' D (.slice Av L1'.length cv) room g1' L1' ys) (q2 : KB (fun i => i = D ∨ some i = (Value.slice A L1.length c).ownBlock) w w') (q3 : (Value.slice Av L1'.length cv).ownBlock = (Value.slice A L1.length c).ownBlock ∨ ∀ g, (Value.slice Av L1'.length cv).ownBlock = some g → w.heap.size ≤ g) :
    T2 w0 w' D M room g1' L1' w'.heap.size g2 L2 B2 ∧ KR w w' ∧ KB (fun i => i < B1) w w' := by
  have hne := ring_ne_ref h1 h2
  have hM := h2.kept q2 (fun e => by
    rcases e with e | e
    · exact hne e.symm
    · obtain ⟨cur, hc⟩ := (h1.rows.lt M e.symm).2
      rw [h2.d] at hc
      injection hc with hc
      injection hc with _ hc _
      exact absurd hc (by decide)) (fun g e e2 => by
    rcases e2 with e2 | e2
    · obtain ⟨cur, hc⟩ := (h2.rows.lt g e).2
      rw [e2, h1.d] at hc
      injection hc with hc
      injection hc with _ hc _
      exact absurd hc (by decide)
    · exact (h5 g e2.symm).2.2 e) (h1.nc _)
  refine ⟨⟨Av, cv, ys, A', c', xs', q1, hM, q2.to_below h3 (fun i e => ?_), ⟨h4.1, q1.lt, h4.2.2⟩, fun g e => ?_, h6, Nat.le_refl _, Nat.le_trans h8 q2.size⟩, ⟨q2.size, fun P u v o ho => ho.keptR q2 (h1.nc P)⟩, q2.wide _ fun i e => ?_⟩
  · rcases e with e | e
    · omega
    · exact (h5 i e.symm).1
  · have hlt := (q1.rows.lt g e).1
    rcases q3 with q | q
    · have := h5 g (q.symm.trans e)
      exact ⟨this.1, hlt, this.2.2⟩
    · have hg := q g e
      exact ⟨Nat.le_trans h3.size hg, hlt, fun e2 => by have := (h6 g e2).2; omega⟩
  · rcases e with e | e
    · omega
    · exact (h5 i e.symm).2.1
/-- A call has turned the reference's ring. -/
theorem T2.stepM {A c xs A' c' xs'} (h1 : RM (fun _ => True) w D (.slice A L1.length c) room g1 L1 xs) (h2 : RF (fun _ => True) w M (.slice A' L2.length c') room g2 L2 xs') (h3 : Below w0.heap.size w0 w) (h4 : w0.heap.size ≤ D ∧ D < B1 ∧ w0.heap.size ≤ M ∧ M < B2)
    (h5 : ∀ g, (Value.slice A L1.length c).ownBlock = some g → w0.heap.size ≤ g ∧ g < B1 ∧ (Value.slice A' L2.length c').ownBlock ≠ some g) (h6 : ∀ g, (Value.slice A' L2.length c').ownBlock = some g → w0.heap.size ≤ g ∧ g < B2) (h7 : B1 ≤ w.heap.size) (_h8 : B2 ≤ w.heap.size)
    {Av : Option Addr} {cv : Nat} {g2' : Int} {L2' : List (Int × Bool)} {ys : List Value} (q1 : RF (fun _ => True) w' M (.slice Av L2'.length cv) room g2' L2' ys) (q2 : KB (fun i => i = M ∨ some i = (Value.slice A' L2.length c').ownBlock) w w') (q3 : (Value.slice Av L2'.length cv).ownBlock = (Value.slice A' L2.length c').ownBlock ∨ ∀ g, (Value.slice Av L2'.length cv).ownBlock = some g → w.heap.size ≤ g) :
    T2 w0 w' D M room g1 L1 B1 g2' L2' w'.heap.size ∧ KR w w' ∧ KB (fun i => i < B2) w w' := by
  have hne := ring_ne_ref h1 h2
  have hM := h1.kept q2 (fun e => by
    rcases e with e | e
    · exact hne e
    · obtain ⟨cur, hc⟩ := (h2.rows.lt D e.symm).2
      rw [h1.d] at hc
      injection hc with hc
      injection hc with _ hc _
      exact absurd hc (by decide)) (fun g e e2 => by
    rcases e2 with e2 | e2
    · obtain ⟨cur, hc⟩ := (h1.rows.lt g e).2
      rw [e2, h2.d] at hc
      injection hc with hc
      injection hc with _ hc _
      exact absurd hc (by decide)
    · exact (h5 g e).2.2 e2.symm) (h2.nc _)
  refine ⟨⟨A, c, xs, Av, cv, ys, hM, q1, q2.to_below h3 (fun i e => ?_), ⟨h4.1, h4.2.1, h4.2.2.1, q1.lt⟩, fun g e => ?_, fun g e => ?_, Nat.le_trans h7 q2.size, Nat.le_refl _⟩, ⟨q2.size, fun P u v o ho => ho.keptR q2 (h2.nc P)⟩, q2.wide _ fun i e => ?_⟩
  · rcases e with e | e
    · omega
    · exact (h6 i e.symm).1
  · have h := h5 g e
    refine ⟨h.1, h.2.1, fun e2 => ?_⟩
    rcases q3 with q | q
    · exact h.2.2 (q.symm.trans e2)
    · have := q g e2; omega
  · have hlt := (q1.rows.lt g e).1
    rcases q3 with q | q
    · exact ⟨(h6 g (q.symm.trans e)).1, hlt⟩
    · exact ⟨Nat.le_trans h3.size (q g e), hlt⟩
  · rcases e with e | e
    · omega
    · exact (h6 i e.symm).2
end
end Go.Proofs.Ytehfejgalemhaaa
