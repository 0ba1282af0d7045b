/- Fill of both rings; what 'does' makes of them: Fill. -/
import Derived.Test.YtehfejgalemhaaaOf
namespace Go.Proofs.Ytehfejgalemhaaa
open Go.RowKit

theorem wpList_append_rows {ops : Array Oper} {rest : List Oper} {o : Oper} {a : Act} {w : World} {Q : Exit → Act → World → Prop} (hgd : o.guard = none) (s x : Operand)
    (ho : o.op = .call { callee := .builtin .append, args := #[s, x], argTypes := #[29, 29] })
    (v : Value) (n : Nat) (xs : List Value) (hs : a.eval s = v) (hown : OR w v n xs) (ad : Addr) (c : Nat) (u1 u2 : Value) (hx : a.eval x = .slice (some ad) 1 c)
    (hc : ∀ j u, [u1, u2][j]? = some u → w.cell? (ad.add j) = some u) (h1c : ∀ u ∈ [u1, u2], u.oneCell' = true) (b1 : n ≤ 1000000)
    (hK : ∀ v' w', OR w' v' (n + 1) (xs ++ [u1, u2]) → w.grownBy w' v.ownBlock → (v'.ownBlock = v.ownBlock ∨ v'.ownBlock = some w.heap.size) → wpList Try.prog ops Q rest (a.put o.dst v') w') :
    wpList Try.prog ops Q (o :: rest) a w := by
  refine wpList_plain hgd fun K hKK => ?_
  obtain ⟨v', w', hr, h2, h3, h4⟩ := run_append_rows hown o.type ad c u1 u2 hc h1c b1
  unfold Oper.wp execOp
  simp only [ho, resolve, invoke, builtin, Sem.run_bind, Sem.run_pure, Result.andThen_ok, List.map_toArray, List.map_cons, List.map_nil, hs, hx, hr]
  exact hKK _ _ (hK v' w' h2 h3 h4)
/-- The rows that are filled in. -/
def LF (k : Nat) : List (Int × Bool) := (List.range k).map fun (j : Nat) => rowZ (100 + j)
theorem LF_len (k : Nat) : (LF k).length = k := by simp [LF]
theorem LF_succ (k : Nat) : LF (k + 1) = LF k ++ [rowZ (100 + (k : Int))] := by simp [LF, List.range_succ]
/-- The list, as far as it is made. -/
structure LI (w1 w : World) (v : Value) (k : Nat) (ys : List Value) : Prop where
  below : Below w1.heap.size w1 w
  rows : OR w v k ys
  each : RS (fun _ => True) w ys (LF k)
  own : ∀ g, v.ownBlock = some g → w1.heap.size ≤ g
theorem LI.next {w1 w w5 w6 : World} {v v6 : Value} {k : Nat} {ys : List Value} {g5 c5 : Nat} (h : LI w1 w v k ys) (hb : Below w.heap.size w w5) (hr : RV (fun _ => True) w5 (.slice (some ⟨g5, 0, none⟩) 1 c5) (.bool (rowZ (100 + (k : Int))).2) (rowZ (100 + (k : Int)))) (o : Obj)
    (ho : OR w6 v6 (k + 1) (ys ++ [.slice (some ⟨g5, 0, none⟩) 1 c5, .bool (rowZ (100 + (k : Int))).2])) (hg : (w5.alloc o).grownBy w6 v.ownBlock) (hor : v6.ownBlock = v.ownBlock ∨ v6.ownBlock = some (w5.alloc o).heap.size) :
    LI w1 w6 v6 (k + 1) (ys ++ [.slice (some ⟨g5, 0, none⟩) 1 c5, .bool (rowZ (100 + (k : Int))).2]) := by
  have hb' : Below w.heap.size w (w5.alloc o) := hb.alloc hb.size _
  have h5 := h.rows.kept (KB.of_below (S := fun _ => False) hb') (fun _ _ e => e)
  have hk : KB (fun i => some i = v.ownBlock) (w5.alloc o) w6 := KB.of_grown hg fun i e => e
  have hnc : NC (fun i => some i = v.ownBlock) (fun _ => True) (w5.alloc o) := fun i cur _ hS _ hc => by
    obtain ⟨c', h'⟩ := (h5.lt i hS.symm).2
    rw [h'] at hc
    injection hc with hc
    injection hc with _ e _
    exact absurd e (by decide)
  have h1 := bel0 h.below hb'
  refine ⟨hk.to_below h1 (fun i e => h.own i e.symm), ho, ?_, fun g e => ?_⟩
  · rw [LF_succ]
    exact RS.snoc ((hr.past ((Below.refl _ w5).alloc (Nat.le_refl _) o)).kept hk hnc) (h.each.map fun _ _ _ q => (q.past hb').kept hk hnc)
  · rcases hor with q | q
    · exact h.own g (q.symm.trans e)
    · rw [q] at e; injection e with e; have := h1.size; omega
theorem fill_t {P2 : Nat → Prop} (w0 w : World) (D M room : Nat) (g1 : Int) (L1 : List (Int × Bool)) (B1 : Nat) (g2 : Int) (L2 : List (Int × Bool)) (B2 : Nat) (h : T2 w0 w D M room g1 L1 B1 g2 L2 B2) (hroom : room ≤ 1000000) (A : Option Addr) (n c : Nat) (ys : List Value) (L : List (Int × Bool)) (hn : n = L.length) (hl : n ≤ 1000000) (ho : OR w (.slice A n c) n ys) (hs : RS P2 w ys L) :
    Calls Try.prog 22 #[.pointer (some ⟨D, 0, none⟩), .slice A n c] w fun e w' => e = .returned (.int .i64 ((n - room : Nat) : Int)) ∧ T2 w0 w' D M room (IntKind.u64.wrap (g1 + ((n - room : Nat) : Int))) (L.drop (n - room)) w'.heap.size g2 L2 B2 ∧ OR w' (.slice A n c) n ys ∧ RS P2 w' ys L := by
  obtain ⟨A0, c0, xs, A', c', xs', h1, h2, h3, h4, h5, h6, h7, h8⟩ := h
  refine (fill_any w D _ room g1 L1 xs h1 (fun _ _ => trivial) hroom A n c ys L hn hl ho hs).mono fun e w' hp => ?_
  obtain ⟨rfl, Av, cv, zs, q1, q2, g, q3, q4⟩ := hp
  refine ⟨rfl, (T2.stepR h1 h2 h3 h4 h5 h6 h7 h8 q1 (q2.wide _ fun i e => .inl e) (.inr fun g' e => by rw [q3] at e; injection e with e; omega)).1, ho.kept q2 (fun g' e e2 => ?_), hs.map fun _ _ _ q => q.kept q2 fun i cur hi hS hp => h1.nc P2 i cur hi (.inl hS) hp⟩
  obtain ⟨cur, hc⟩ := (ho.lt g' e).2
  rw [e2, h1.d] at hc
  injection hc with hc
  injection hc with _ hc _
  exact absurd hc (by decide)
theorem rfill_t (w0 w : World) (D M room : Nat) (g1 : Int) (L1 : List (Int × Bool)) (B1 : Nat) (g2 : Int) (L2 : List (Int × Bool)) (B2 : Nat) (h : T2 w0 w D M room g1 L1 B1 g2 L2 B2) (hroom : room ≤ 1000000) (A : Option Addr) (n c : Nat) (ys : List Value) (L : List (Int × Bool)) (hn : n = L.length) (hl : n ≤ 1000000) (ho : OR w (.slice A n c) n ys) (hs : RS (fun _ => True) w ys L) :
    Calls Try.prog 26 #[.pointer (some ⟨M, 0, none⟩), .slice A n c] w fun e w' => e = .returned (.int .i64 ((n - room : Nat) : Int)) ∧ T2 w0 w' D M room g1 L1 B1 (IntKind.u64.wrap (g2 + ((n - room : Nat) : Int))) (L.drop (n - room)) w'.heap.size := by
  obtain ⟨A0, c0, xs, A', c', xs', h1, h2, h3, h4, h5, h6, h7, h8⟩ := h
  refine (rfill_any w M _ room g2 L2 xs' h2 hroom A n c ys L hn hl ho hs).mono fun e w' hp => ?_
  obtain ⟨rfl, Av, cv, zs, q1, q2, q3⟩ := hp
  exact ⟨rfl, (T2.stepM h1 h2 h3 h4 h5 h6 h7 h8 q1 (q2.wide _ fun i e => .inl e) (.inr q3)).1⟩
end Go.Proofs.Ytehfejgalemhaaa
