/- The walk of Text's function. -/
import Derived.Test.YtlolbfbkoimjkaaDoorQb
namespace Go.Proofs.YtlolbfbkoimjkaaDoor
open Go.RowKit

set_option maxRecDepth 100000 in
theorem Tryd.infoU8 : (Tryd.prog.info? 5).map (fun i => (i.zero, i.size, i.bytes)) = some (some (.int .u8 0), 1, 1) := by kernel_rfl
/-- AppendInt's table is there. -/
def T10 (B : Nat) (w : World) : Prop := Lib.TabBelow Tryd.prog B w "internal/strconv.uint64pow10" .u64 Lib.pow10Tab
set_option maxRecDepth 100000 in
theorem T10.on {B B' : Nat} {w w' : World} (h : T10 B w) (hb : Below B w w') (hB : B ≤ B') : T10 B' w' := fun W hW => h W (hb.trans (hW.mono hB))
/-- The variable of a row of bytes lies in block gb; the row is of the call's own. -/
structure BI (w0 W : World) (gb : Nat) (T : List UInt8) (vg : Value) : Prop where
  below : Below gb w0 W
  cell : W.heap[gb]? = some (.cells #[vg] 59 (0, 0))
  own : W.ownsRow (gb + 1) 5 1 vg T.length (Lib.byteCells T)
set_option maxRecDepth 100000 in
theorem BI.past {w0 W W' : World} {gb : Nat} {T : List UInt8} {vg : Value} (h : BI w0 W gb T vg) (hb : Below W.heap.size W W') : BI w0 W' gb T vg :=
  ⟨h.below.trans (hb.mono (Nat.le_of_lt (lt_of_block h.cell))), (hb.block gb (lt_of_block h.cell)).trans h.cell, own_past h.own hb⟩
set_option maxRecDepth 100000 in
theorem BI.put {w0 w5 : World} {gb : Nat} {T U : List UInt8} {vg v2 : Value} (hb5 : Below gb w0 w5) (hc5 : w5.heap[gb]? = some (.cells #[vg] 59 (0, 0))) (h2 : w5.ownsRow (gb + 1) 5 1 v2 (T.length + U.length) (Lib.byteCells T ++ Lib.byteCells U)) :
    w5.cell? ⟨gb, 0, none⟩ = some vg ∧ w5.frozen? ⟨gb, 0, none⟩ = false ∧ BI w0 (w5.setCell ⟨gb, 0, none⟩ v2) gb (T ++ U) v2 := by
  refine ⟨cell_of_one hc5, free_of_one hc5, hb5.setCell (p := ⟨gb, 0, none⟩) (Nat.le_refl _) _, one_setCell hc5, ?_⟩
  have h3 : (w5.setCell ⟨gb, 0, none⟩ v2).ownsRow (gb + 1) 5 1 v2 (T.length + U.length) (Lib.byteCells T ++ Lib.byteCells U) := h2.kept (⟨rfl, rfl, rfl, by simp, fun k _ hne => heap_setCell_other w5 ⟨gb, 0, none⟩ k v2 (fun e => hne (by rw [e]))⟩) (.inr (fun e => by have := (h2.lt gb e).1; omega))
  rw [List.length_append, Lib.byteCells, List.map_append]
  exact h3
set_option maxRecDepth 100000 in
theorem BI.grow {w0 W w5 : World} {gb : Nat} {T : List UInt8} {vg v2 : Value} {x : UInt8} (h : BI w0 W gb T vg) (hg : W.grownBy w5 vg.ownBlock) (h2 : w5.ownsRow (gb + 1) 5 1 v2 (T.length + 1) (Lib.byteCells T ++ [.int .u8 x.toNat])) :
    w5.cell? ⟨gb, 0, none⟩ = some vg ∧ w5.frozen? ⟨gb, 0, none⟩ = false ∧ BI w0 (w5.setCell ⟨gb, 0, none⟩ v2) gb (T ++ [x]) v2 := by
  have hlt := lt_of_block h.cell
  have hne : some gb ≠ vg.ownBlock := fun e => by have := (h.own.lt gb e.symm).1; omega
  have hc5 : w5.heap[gb]? = some (.cells #[vg] 59 (0, 0)) := (hg.block gb hlt hne).trans h.cell
  have hb5 : Below gb w0 w5 := h.below.grown hg (Nat.le_of_lt hlt) (fun k e => by have := (h.own.lt k e).1; omega)
  exact BI.put (U := [x]) hb5 hc5 h2
set_option maxRecDepth 100000 in
theorem BI.call {w0 W w5 : World} {gb : Nat} {T U : List UInt8} {vg v2 : Value} (h : BI w0 W gb T vg) (hb : Below (gb + 1) W w5) (h2 : w5.ownsRow (gb + 1) 5 1 v2 (T.length + U.length) (Lib.byteCells T ++ Lib.byteCells U)) :
    w5.cell? ⟨gb, 0, none⟩ = some vg ∧ w5.frozen? ⟨gb, 0, none⟩ = false ∧ BI w0 (w5.setCell ⟨gb, 0, none⟩ v2) gb (T ++ U) v2 :=
  BI.put (h.below.trans (hb.mono (Nat.le_succ _))) ((hb.block gb (Nat.lt_succ_self _)).trans h.cell) h2

/-- Text's state. -/
structure TX (w0 W : World) (lb : Nat) (D : List (List Int)) (P : List Int) (vl : Value) : Prop where
  bi : BI w0 W lb (accT D P) vl
  rows : ∀ r ∈ D, r.length ≤ 8 ∧ ∀ z ∈ r, (numT z).length ≤ 21
  vals : ∀ z ∈ P, (numT z).length ≤ 21
set_option maxRecDepth 100000 in
theorem TX.below {w0 W : World} {lb : Nat} {D : List (List Int)} {P : List Int} {vl : Value} (h : TX w0 W lb D P vl) : Below lb w0 W := h.bi.below
set_option maxRecDepth 100000 in
theorem TX.step {w0 W : World} {lb : Nat} {D : List (List Int)} {P : List Int} {vl : Value} (h : TX w0 W lb D P vl) (_ : P ≠ []) (h8 : P.length ≤ 8) : TX w0 W lb (D ++ [P]) [] vl :=
  ⟨by rw [accT_step]; exact h.bi, fun r hr => by
    rcases List.mem_append.1 hr with h1 | h1
    · exact h.rows r h1
    · simp at h1
      subst h1
      exact ⟨h8, h.vals⟩, by simp⟩
set_option maxRecDepth 100000 in
theorem TX.next {w0 W W' : World} {lb : Nat} {D : List (List Int)} {P : List Int} {z : Int} {vl vl' : Value} (h : TX w0 W lb D P vl) (h0 : -1 ≤ z) (h1 : z ≤ 65535) (hb : BI w0 W' lb (accT D P ++ sepT D.length P.length ++ numT z) vl') : TX w0 W' lb D (P ++ [z]) vl' :=
  ⟨by rw [accT_snoc]; exact hb, h.rows, fun y hy => by
    rcases List.mem_append.1 hy with h2 | h2
    · exact h.vals y h2
    · simp at h2
      subst h2
      exact itoa_len y (by omega) (by omega)⟩
def XPost (w0 : World) (lb : Nat) (D : List (List Int)) (P : List Int) (e : Ending) (w' : World) : Prop := ∃ v', e = .returned (.tuple #[]) ∧ TX w0 w' lb D P v'
set_option maxRecDepth 100000 in
theorem itoa_10 (W : World) (gb : Nat) (z : Int) (T : List UInt8) (vg : Value) (w0 : World) (h0 : 0 ≤ z) (h1 : z ≤ 65535) (hI : BI w0 W gb T vg) (hl : T.length ≤ 100000) (hT : T10 gb w0) :
    Calls Tryd.prog 50 #[vg, .int .i64 z, .int .i64 10] W fun e w' => ∃ v', e = .returned v' ∧ w'.cell? ⟨gb, 0, none⟩ = some vg ∧ w'.frozen? ⟨gb, 0, none⟩ = false ∧ BI w0 (w'.setCell ⟨gb, 0, none⟩ v') gb (T ++ Lib.itoa z) v' ∧ ∃ A c, v' = .slice A (T.length + (Lib.itoa z).length) c := by
  refine (Tryd.strconv_AppendInt_10 (gb + 1) T.length z (by omega) (by omega) vg (Lib.byteCells T) W hI.own (lt_of_block hI.cell) (by omega) (hT.on hI.below (Nat.le_succ _))).mono ?_
  rintro e w' ⟨v', rfl, ho, hb, _⟩
  obtain ⟨A, c, hf, _⟩ := own_form ho
  obtain ⟨a, b, c'⟩ := hI.call hb ho
  exact ⟨v', rfl, a, b, c', A, c, hf⟩

set_option maxHeartbeats 4000000 in
set_option maxRecDepth 100000 in
theorem text1_any (lb : Nat) (D : List (List Int)) (P : List Int) (z : Int) (vl : Value) (w0 w : World) (hI : TX w0 w lb D P vl) (hD : D.length ≤ 100) (hPl : P.length ≤ 100) (h0 : -1 ≤ z) (h1 : z ≤ 65535) (hT : T10 lb w0) :
    Calls Tryd.prog 49 #[.int .i64 D.length, .int .i64 P.length, .int .i64 z, .pointer (some ⟨lb, 0, none⟩)] w (XPost w0 lb D (P ++ [z])) := by
  obtain ⟨i0, hi0, hz0, hz1, hz2⟩ := info_parts Tryd.infoU8
  have HNX : Hid (∀ W' vl', BI w0 W' lb (accT D P ++ sepT D.length P.length ++ numT z) vl' → TX w0 W' lb D (P ++ [z]) vl') := Lib.hid fun W' vl' h => hI.next h0 h1 h
  have hlen := accT_len D P hI.rows hI.vals
  have HB := Lib.hid hI.bi
  have hc := cell_of_one hI.bi.cell
  have hf := free_of_one hI.bi.cell
  have hlt := lt_of_block hI.bi.cell
  obtain ⟨Av, cv, hv, _⟩ := own_form hI.bi.own
  subst hv
  have hTl : (accT D P).length ≤ 50000 := by omega
  have HCALL : Hid (0 ≤ z → ∀ W T A n c, BI w0 W lb T (.slice A n c) → T.length ≤ 100000 → Calls Tryd.prog 50 #[.slice A n c, .int .i64 z, .int .i64 10] W fun e w' => ∃ A' n' c', e = .returned (.slice A' n' c') ∧ w'.cell? ⟨lb, 0, none⟩ = some (.slice A n c) ∧ w'.frozen? ⟨lb, 0, none⟩ = false ∧ BI w0 (w'.setCell ⟨lb, 0, none⟩ (.slice A' n' c')) lb (T ++ numT z) (.slice A' n' c')) := Lib.hid fun hz W T A n c h hl => (itoa_10 W lb z T _ w0 hz h1 h hl hT).mono fun e w' h => by
    obtain ⟨v', rfl, a, b, d, A', c', rfl⟩ := h
    refine ⟨A', _, c', rfl, a, b, ?_⟩
    rw [numT, if_neg (by omega)]
    exact d
  have HZ1 : Hid (z = -1 → numT z = []) := Lib.hid fun e => by rw [numT, if_pos e]
  clear hI hlen hT
  unfold XPost
  have hzc : z = -1 ∨ 0 ≤ z := by omega
  clear h0 h1
  generalize accT D P = T at *
  have HS1 : Hid (0 < P.length → sepT D.length P.length = [58]) := Lib.hid fun h => by rw [sepT, if_pos h]
  have HS2 : Hid (P.length = 0 → 0 < D.length → sepT D.length P.length = [59]) := Lib.hid fun h h' => by rw [sepT, if_neg (by omega), if_pos h']
  have HS3 : Hid (P.length = 0 → D.length = 0 → sepT D.length P.length = []) := Lib.hid fun h h' => by rw [sepT, if_neg (by omega), if_neg (by omega)]
  generalize sepT D.length P.length = Sp at *
  have HOWN : Hid (∀ b, (w.alloc b).ownsRow (lb + 1) 5 1 (.slice Av T.length cv) T.length (Lib.byteCells T)) := Lib.hid fun b => HB.out.own.alloc _
  have HGR : Hid (∀ x : UInt8, ∀ w5 v2, (w.alloc (.cells #[.int .u8 x.toNat] 5)).grownBy w5 (Value.slice Av T.length cv).ownBlock → w5.ownsRow (lb + 1) 5 1 v2 (T.length + 1) (Lib.byteCells T ++ [.int .u8 x.toNat]) → w5.cell? ⟨lb, 0, none⟩ = some (.slice Av T.length cv) ∧ w5.frozen? ⟨lb, 0, none⟩ = false ∧ BI w0 (w5.setCell ⟨lb, 0, none⟩ v2) lb (T ++ [x]) v2) := Lib.hid fun x w5 v2 hg h2 => (HB.out.past ((Below.refl w.heap.size w).alloc (Nat.le_refl _) _)).grow hg h2
  generalize Lib.byteCells T = TL at *
  by_cases hp0 : 0 < P.length
  · have hp := hp0
    have hd1 : decide ((P.length : Int) > 0) = true := decide_eq_true (by omega)
    have HSP := Lib.hid (HS1.out hp)
    clear HS1 HS2 HS3
    have HGR := Lib.hid (HGR.out 58)
    have HOWN := Lib.hid (HOWN.out (.cells #[.int .u8 58] 5))
    rcases hzc with hz | hz
    · have hzb : (z != -1) = false := by simp [hz]
      have HZ := Lib.hid (HZ1.out hz)
      clear hz HZ1
      go_enter Tryd.func49, Tryd.ntmps49
      go_wp2_with (at_builtin; go_must (refine wpList_append_own _ rfl _ _ 59 rfl (lb + 1) 5 i0 (.int .u8 0) 1 1 Tryd.underlying59 hi0 hz0 hz1 hz2 rfl (by decide) (.slice Av T.length cv) T.length TL rfl HOWN.out ⟨w.heap.size, 0, none⟩ 1 1 [.int .u8 58] rfl rfl (news1 _ _ _) (by simp [Value.oneCell']) (by unfold maxLen; omega) (by omega) (by simp; omega) ?_; intro v2 w5 hown2 hgrow2 _; obtain ⟨A5, c5, rfl, _⟩ := own_form hown2; obtain ⟨hc5, hf5, hp5⟩ := HGR.out w5 _ hgrow2 hown2; have HP5 := Lib.hid hp5; have hc6 := cell_of_one hp5.cell; have hf6 := free_of_one hp5.cell; clear hown2 hgrow2 hp5))
      go_end0
      first
        | exact ⟨_, rfl, HNX.out _ _ (by rw [HSP.out, HZ.out, List.append_nil]; exact HP5.out)⟩
        | exact ⟨rfl, _, HNX.out _ _ (by rw [HSP.out, HZ.out, List.append_nil]; exact HP5.out)⟩
    · have hzb : (z != -1) = true := by simp; omega
      clear HZ1
      go_enter Tryd.func49, Tryd.ntmps49
      go_wp2_with (first
        | (at_builtin; go_must (refine wpList_append_own _ rfl _ _ 59 rfl (lb + 1) 5 i0 (.int .u8 0) 1 1 Tryd.underlying59 hi0 hz0 hz1 hz2 rfl (by decide) (.slice Av T.length cv) T.length TL rfl HOWN.out ⟨w.heap.size, 0, none⟩ 1 1 [.int .u8 58] rfl rfl (news1 _ _ _) (by simp [Value.oneCell']) (by unfold maxLen; omega) (by omega) (by simp; omega) ?_; intro v2 w5 hown2 hgrow2 _; obtain ⟨A5, c5, rfl, _⟩ := own_form hown2; obtain ⟨hc5, hf5, hp5⟩ := HGR.out w5 _ hgrow2 hown2; have HP5 := Lib.hid hp5; have hc6 := cell_of_one hp5.cell; have hf6 := free_of_one hp5.cell; clear hown2 hgrow2 hp5))
        | (go_at_call 50; (with_reducible refine (HCALL.out hz _ _ _ _ _ HP5.out (by simp; omega)).mono ?_); rintro e w7 ⟨A7, n7, c7, rfl, hc7, hf7, hp7⟩; have HP7 := Lib.hid hp7; clear hp7))
      go_end0
      first
        | exact ⟨_, rfl, HNX.out _ _ (by rw [HSP.out]; exact HP7.out)⟩
        | exact ⟨rfl, _, HNX.out _ _ (by rw [HSP.out]; exact HP7.out)⟩
  · have hp : P.length = 0 := by omega
    by_cases hd : 0 < D.length
    · have hd1 : decide ((P.length : Int) > 0) = false := decide_eq_false (by omega)
      have hd2 : decide ((D.length : Int) > 0) = true := decide_eq_true (by omega)
      have HSP := Lib.hid (HS2.out hp hd)
      clear HS1 HS2 HS3
      have HGR := Lib.hid (HGR.out 59)
      have HOWN := Lib.hid (HOWN.out (.cells #[.int .u8 59] 5))
      rcases hzc with hz | hz
      · have hzb : (z != -1) = false := by simp [hz]
        have HZ := Lib.hid (HZ1.out hz)
        clear hz HZ1
        go_enter Tryd.func49, Tryd.ntmps49
        go_wp2_with (at_builtin; go_must (refine wpList_append_own _ rfl _ _ 59 rfl (lb + 1) 5 i0 (.int .u8 0) 1 1 Tryd.underlying59 hi0 hz0 hz1 hz2 rfl (by decide) (.slice Av T.length cv) T.length TL rfl HOWN.out ⟨w.heap.size, 0, none⟩ 1 1 [.int .u8 59] rfl rfl (news1 _ _ _) (by simp [Value.oneCell']) (by unfold maxLen; omega) (by omega) (by simp; omega) ?_; intro v2 w5 hown2 hgrow2 _; obtain ⟨A5, c5, rfl, _⟩ := own_form hown2; obtain ⟨hc5, hf5, hp5⟩ := HGR.out w5 _ hgrow2 hown2; have HP5 := Lib.hid hp5; have hc6 := cell_of_one hp5.cell; have hf6 := free_of_one hp5.cell; clear hown2 hgrow2 hp5))
        go_end0
        first
          | exact ⟨_, rfl, HNX.out _ _ (by rw [HSP.out, HZ.out, List.append_nil]; exact HP5.out)⟩
          | exact ⟨rfl, _, HNX.out _ _ (by rw [HSP.out, HZ.out, List.append_nil]; exact HP5.out)⟩
      · have hzb : (z != -1) = true := by simp; omega
        clear HZ1
        go_enter Tryd.func49, Tryd.ntmps49
        go_wp2_with (first
          | (at_builtin; go_must (refine wpList_append_own _ rfl _ _ 59 rfl (lb + 1) 5 i0 (.int .u8 0) 1 1 Tryd.underlying59 hi0 hz0 hz1 hz2 rfl (by decide) (.slice Av T.length cv) T.length TL rfl HOWN.out ⟨w.heap.size, 0, none⟩ 1 1 [.int .u8 59] rfl rfl (news1 _ _ _) (by simp [Value.oneCell']) (by unfold maxLen; omega) (by omega) (by simp; omega) ?_; intro v2 w5 hown2 hgrow2 _; obtain ⟨A5, c5, rfl, _⟩ := own_form hown2; obtain ⟨hc5, hf5, hp5⟩ := HGR.out w5 _ hgrow2 hown2; have HP5 := Lib.hid hp5; have hc6 := cell_of_one hp5.cell; have hf6 := free_of_one hp5.cell; clear hown2 hgrow2 hp5))
          | (go_at_call 50; (with_reducible refine (HCALL.out hz _ _ _ _ _ HP5.out (by simp; omega)).mono ?_); rintro e w7 ⟨A7, n7, c7, rfl, hc7, hf7, hp7⟩; have HP7 := Lib.hid hp7; clear hp7))
        go_end0
        first
          | exact ⟨_, rfl, HNX.out _ _ (by rw [HSP.out]; exact HP7.out)⟩
          | exact ⟨rfl, _, HNX.out _ _ (by rw [HSP.out]; exact HP7.out)⟩
    · have hd : D.length = 0 := by omega
      have hd1 : decide ((P.length : Int) > 0) = false := decide_eq_false (by omega)
      have hd2 : decide ((D.length : Int) > 0) = false := decide_eq_false (by omega)
      have HSP := Lib.hid (HS3.out hp hd)
      clear HS1 HS2 HS3
      rcases hzc with hz | hz
      · have hzb : (z != -1) = false := by simp [hz]
        have HZ := Lib.hid (HZ1.out hz)
        clear hz HZ1
        go_enter Tryd.func49, Tryd.ntmps49
        go_wp2
        go_end0
        first
          | exact ⟨_, rfl, HNX.out _ _ (by rw [HSP.out, HZ.out, List.append_nil, List.append_nil]; exact HB.out)⟩
          | exact ⟨rfl, _, HNX.out _ _ (by rw [HSP.out, HZ.out, List.append_nil, List.append_nil]; exact HB.out)⟩
      · have hzb : (z != -1) = true := by simp; omega
        clear HZ1
        go_enter Tryd.func49, Tryd.ntmps49
        go_wp2_with (go_at_call 50; (with_reducible refine (HCALL.out hz _ _ _ _ _ HB.out (by omega)).mono ?_); rintro e w7 ⟨A7, n7, c7, rfl, hc7, hf7, hp7⟩; have HP7 := Lib.hid hp7; clear hp7)
        go_end0
        first
          | exact ⟨_, rfl, HNX.out _ _ (by rw [HSP.out, List.append_nil]; exact HP7.out)⟩
          | exact ⟨rfl, _, HNX.out _ _ (by rw [HSP.out, List.append_nil]; exact HP7.out)⟩

end Go.Proofs.YtlolbfbkoimjkaaDoor
