/- The walk of Text's function. -/
import Derived.Test.YtlndmfbopopmmaaDoorQb
namespace Go.Proofs.YtlndmfbopopmmaaDoor
open Go.RowKit

theorem Tryd.infoU8 : (Tryd.prog.info? 5).map (fun i => (i.zero, i.size, i.bytes)) = some (some (.int .u8 0), 1, 1) := by kernel_rfl
/-- AppendInt's table is there. -/
def T10 (B : Nat) (w : World) : Prop := Lib.TabBelow Tryd.prog B w "internal/strconv.uint64pow10" .u64 Lib.pow10Tab
theorem T10.on {B B' : Nat} {w w' : World} (h : T10 B w) (hb : Below B w w') (hB : B ≤ B') : T10 B' w' := fun W hW => h W (hb.trans (hW.mono hB))
/-- The variable of a row of bytes lies in block gb; the row is of the call's own. -/
structure BI (w0 W : World) (gb : Nat) (T : List UInt8) (vg : Value) : Prop where
  below : Below gb w0 W
  cell : W.heap[gb]? = some (.cells #[vg] 51 (0, 0))
  own : W.ownsRow (gb + 1) 5 1 vg T.length (Lib.byteCells T)
theorem BI.past {w0 W W' : World} {gb : Nat} {T : List UInt8} {vg : Value} (h : BI w0 W gb T vg) (hb : Below W.heap.size W W') : BI w0 W' gb T vg :=
  ⟨h.below.trans (hb.mono (Nat.le_of_lt (lt_of_block h.cell))), (hb.block gb (lt_of_block h.cell)).trans h.cell, own_past h.own hb⟩
theorem BI.put {w0 w5 : World} {gb : Nat} {T U : List UInt8} {vg v2 : Value} (hb5 : Below gb w0 w5) (hc5 : w5.heap[gb]? = some (.cells #[vg] 51 (0, 0))) (h2 : w5.ownsRow (gb + 1) 5 1 v2 (T.length + U.length) (Lib.byteCells T ++ Lib.byteCells U)) :
    w5.cell? ⟨gb, 0, none⟩ = some vg ∧ w5.frozen? ⟨gb, 0, none⟩ = false ∧ BI w0 (w5.setCell ⟨gb, 0, none⟩ v2) gb (T ++ U) v2 := by
  refine ⟨cell_of_one hc5, free_of_one hc5, hb5.setCell (p := ⟨gb, 0, none⟩) (Nat.le_refl _) _, one_setCell hc5, ?_⟩
  have h3 : (w5.setCell ⟨gb, 0, none⟩ v2).ownsRow (gb + 1) 5 1 v2 (T.length + U.length) (Lib.byteCells T ++ Lib.byteCells U) := h2.kept (⟨rfl, rfl, rfl, by simp, fun k _ hne => heap_setCell_other w5 ⟨gb, 0, none⟩ k v2 (fun e => hne (by rw [e]))⟩) (.inr (fun e => by have := (h2.lt gb e).1; omega))
  rw [List.length_append, Lib.byteCells, List.map_append]
  exact h3
theorem BI.grow {w0 W w5 : World} {gb : Nat} {T : List UInt8} {vg v2 : Value} {x : UInt8} (h : BI w0 W gb T vg) (hg : W.grownBy w5 vg.ownBlock) (h2 : w5.ownsRow (gb + 1) 5 1 v2 (T.length + 1) (Lib.byteCells T ++ [.int .u8 x.toNat])) :
    w5.cell? ⟨gb, 0, none⟩ = some vg ∧ w5.frozen? ⟨gb, 0, none⟩ = false ∧ BI w0 (w5.setCell ⟨gb, 0, none⟩ v2) gb (T ++ [x]) v2 := by
  have hlt := lt_of_block h.cell
  have hne : some gb ≠ vg.ownBlock := fun e => by have := (h.own.lt gb e.symm).1; omega
  have hc5 : w5.heap[gb]? = some (.cells #[vg] 51 (0, 0)) := (hg.block gb hlt hne).trans h.cell
  have hb5 : Below gb w0 w5 := h.below.grown hg (Nat.le_of_lt hlt) (fun k e => by have := (h.own.lt k e).1; omega)
  exact BI.put (U := [x]) hb5 hc5 h2
theorem BI.call {w0 W w5 : World} {gb : Nat} {T U : List UInt8} {vg v2 : Value} (h : BI w0 W gb T vg) (hb : Below (gb + 1) W w5) (h2 : w5.ownsRow (gb + 1) 5 1 v2 (T.length + U.length) (Lib.byteCells T ++ Lib.byteCells U)) :
    w5.cell? ⟨gb, 0, none⟩ = some vg ∧ w5.frozen? ⟨gb, 0, none⟩ = false ∧ BI w0 (w5.setCell ⟨gb, 0, none⟩ v2) gb (T ++ U) v2 :=
  BI.put (h.below.trans (hb.mono (Nat.le_succ _))) ((hb.block gb (Nat.lt_succ_self _)).trans h.cell) h2

/-- Text's state. -/
structure TX (w0 W : World) (lb : Nat) (D : List (List Int)) (P : List Int) (vl : Value) : Prop where
  bi : BI w0 W lb (accT D P) vl
  rows : ∀ r ∈ D, r.length ≤ 8 ∧ ∀ z ∈ r, (numT z).length ≤ 21
  vals : ∀ z ∈ P, (numT z).length ≤ 21
theorem TX.below {w0 W : World} {lb : Nat} {D : List (List Int)} {P : List Int} {vl : Value} (h : TX w0 W lb D P vl) : Below lb w0 W := h.bi.below
theorem TX.step {w0 W : World} {lb : Nat} {D : List (List Int)} {P : List Int} {vl : Value} (h : TX w0 W lb D P vl) (_ : P ≠ []) (h8 : P.length ≤ 8) : TX w0 W lb (D ++ [P]) [] vl :=
  ⟨by rw [accT_step]; exact h.bi, fun r hr => by
    rcases List.mem_append.1 hr with h1 | h1
    · exact h.rows r h1
    · simp at h1
      subst h1
      exact ⟨h8, h.vals⟩, by simp⟩
theorem TX.next {w0 W W' : World} {lb : Nat} {D : List (List Int)} {P : List Int} {z : Int} {vl vl' : Value} (h : TX w0 W lb D P vl) (h0 : -1 ≤ z) (h1 : z ≤ 65535) (hb : BI w0 W' lb (accT D P ++ sepT D.length P.length ++ numT z) vl') : TX w0 W' lb D (P ++ [z]) vl' :=
  ⟨by rw [accT_snoc]; exact hb, h.rows, fun y hy => by
    rcases List.mem_append.1 hy with h2 | h2
    · exact h.vals y h2
    · simp at h2
      subst h2
      exact itoa_len y (by omega) (by omega)⟩
def XPost (w0 : World) (lb : Nat) (D : List (List Int)) (P : List Int) (e : Ending) (w' : World) : Prop := ∃ v', e = .returned (.tuple #[]) ∧ TX w0 w' lb D P v'
theorem itoa_10 (W : World) (gb : Nat) (z : Int) (T : List UInt8) (vg : Value) (w0 : World) (h0 : 0 ≤ z) (h1 : z ≤ 65535) (hI : BI w0 W gb T vg) (hl : T.length ≤ 100000) (hT : T10 gb w0) :
    Calls Tryd.prog 37 #[vg, .int .i64 z, .int .i64 10] W fun e w' => ∃ v', e = .returned v' ∧ w'.cell? ⟨gb, 0, none⟩ = some vg ∧ w'.frozen? ⟨gb, 0, none⟩ = false ∧ BI w0 (w'.setCell ⟨gb, 0, none⟩ v') gb (T ++ Lib.itoa z) v' ∧ ∃ A c, v' = .slice A (T.length + (Lib.itoa z).length) c := by
  refine (Tryd.strconv_AppendInt_10 (gb + 1) T.length z (by omega) (by omega) vg (Lib.byteCells T) W hI.own (lt_of_block hI.cell) (by omega) (hT.on hI.below (Nat.le_succ _))).mono ?_
  rintro e w' ⟨v', rfl, ho, hb, _⟩
  obtain ⟨A, c, hf, _⟩ := own_form ho
  obtain ⟨a, b, c'⟩ := hI.call hb ho
  exact ⟨v', rfl, a, b, c', A, c, hf⟩

end Go.Proofs.YtlndmfbopopmmaaDoor
