/- What a strings.Builder's WriteString does, walked at this program: the loader leaves out the piece in which the copy check panics. -/
import Derived.Test.YtjifekdjkjnefaaGt
namespace Go.Proofs.Ytjifekdjkjnefaa
open Go.RowKit Go.Shelf

/-- A builder of one's own that holds the bytes bs. -/
abbrev SB (B b : Nat) (bs : List Value) (w : World) : Prop := Lib.IsBuilder 60 5 B b bs w
/-- One that has been written. -/
abbrev SW (B b : Nat) (bs : List Value) (w : World) : Prop := Lib.BuilderAt 60 5 B b (.pointer (some ⟨b, 0, none⟩)) bs w
theorem sbInfo : ∃ j, Try.prog.info? 60 = some j ∧ j.size = 2 := by
  have e : (Try.prog.info? 60).map (·.size) = some 2 := by kernel_rfl
  cases h : Try.prog.info? 60 with
  | none => rw [h] at e; cases e
  | some j => rw [h] at e; exact ⟨j, rfl, Option.some.inj e⟩
theorem sbEscape (x : Value) (W : World) : (callFunc 42 #[x]).run Try.prog W = .ok (.value x) W := by
  rw [run_callFunc_extern Try.func42 (by kernel_rfl) (by kernel_rfl) (by kernel_rfl) (e := Extern.AbiNoEscape.same) (by kernel_rfl), Lib.run_noEscape]
  rfl
set_option maxRecDepth 100000 in
set_option maxHeartbeats 4000000 in
theorem check_any (B b : Nat) (bs : List Value) (w : World) (h : SB B b bs w) :
    Calls Try.prog 38 #[.pointer (some ⟨b, 0, none⟩)] w fun e w' => e = .returned (.tuple #[]) ∧ SW B b bs w' ∧ Below B w w' := by
  obtain ⟨j, hj, hjs⟩ := sbInfo
  rcases h with h | h
  · have c0 := h.cell0
    have hf := h.frozen0
    have ht := Lib.run_to_unsafe w ⟨b, 0, none⟩ Try.underlying57 Try.underlying81 hj (by omega) h.shape (Nat.zero_lt_succ 1)
    have hr := Lib.run_from_unsafe w ⟨b, 0, none⟩ Try.underlying81 Try.underlying57 hj h.shape (by kernel_rfl)
    have he := sbEscape (.pointer (some ⟨b, 0, none⟩)) w
    have HU := Lib.hid (h.used (.pointer (some ⟨b, 0, none⟩)))
    have HB := Lib.hid ((Below.refl B w).setCell (p := ⟨b, 0, none⟩) h.1 (.pointer (some ⟨b, 0, none⟩)))
    clear h hj hjs
    go_enter Try.func38, Try.ntmps38
    go_wp2
    go_end0
    exact ⟨rfl, HU.out, HB.out⟩
  · have c0 := h.cell0
    have hq := Lib.run_neq_ptr_same w (⟨b, 0, none⟩ : Addr) Try.underlying57 hj
    have HU := Lib.hid h
    have HB := Lib.hid (Below.refl B w)
    clear h hj hjs
    go_enter Try.func38, Try.ntmps38
    go_wp2
    go_end0
    exact ⟨rfl, HU.out, HB.out⟩
theorem sbByte : ∃ i, Try.prog.info? 5 = some i ∧ i.zero = some (.int .u8 0) ∧ i.size = 1 ∧ i.bytes = 1 :=
  info_parts (by kernel_rfl : (Try.prog.info? 5).map (fun i => (i.zero, i.size, i.bytes)) = some (some (.int .u8 0), 1, 1))
/-- Where a builder's own row has grown, the builder itself is as it was. -/
theorem SW.stays {b : Nat} {p v : Value} {w w' : World} (hb : w.heap[b]? = some (.cells #[p, v] 60 (0, 0))) (hne : v.ownBlock ≠ some b) (hg : w.grownBy w' v.ownBlock) : w'.heap[b]? = some (.cells #[p, v] 60 (0, 0)) :=
  (hg.block b (Array.getElem?_eq_some_iff.1 hb).1 fun e => hne e.symm).trans hb
theorem slice_of_row {W : World} {B : Nat} {e : TypeId} {z : Nat} {v : Value} {n : Nat} {L : List Value} (h : W.ownsRow B e z v n L) : ∃ A m c, v = .slice A m c := by
  obtain ⟨_, ⟨rfl, _⟩ | ⟨g, c, cur, rfl, _⟩⟩ := h
  · exact ⟨_, _, _, rfl⟩
  · exact ⟨_, _, _, rfl⟩
set_option maxRecDepth 100000 in
set_option maxHeartbeats 4000000 in
theorem writeString_any (B b : Nat) (bs : List Value) (s : ByteArray) (w : World) (h : SB B b bs w) (hlen : bs.length + s.size ≤ 140737488355328) (hBw : B ≤ w.heap.size) :
    Calls Try.prog 30 #[.pointer (some ⟨b, 0, none⟩), .string s] w fun e w' => e = .returned (.tuple #[.int .i64 s.size, .nilIface]) ∧ SW B b (bs ++ Lib.strCells s) w' ∧ Below B w w' := by
  obtain ⟨i0, hi, hz0, hz1, hz2⟩ := sbByte
  have HCK := Lib.hid (check_any B b bs w h)
  have HMX : Hid (bs.length + s.size ≤ maxLen ∧ bs.length + s.size ≤ 140737488355328) := Lib.hid ⟨by unfold maxLen; omega, by omega⟩
  have HBW := Lib.hid hBw
  have HP : Hid (∀ (W : World) (v : Value), W.heap[b]? = some (.cells #[.pointer (some ⟨b, 0, none⟩), v] 60 (0, 0)) → W.cell? ⟨b, 0, none⟩ = some (.pointer (some ⟨b, 0, none⟩)) ∧ W.cell? ⟨b, 1, none⟩ = some v ∧ W.frozen? ⟨b, 1, none⟩ = false) := Lib.hid fun W v hb => ⟨cell_of_row _ _ 0 _ _ _ hb, cell_of_row _ _ 1 _ _ _ hb, Lib.frozen_of_heap hb 1⟩
  clear h hlen hBw
  go_enter Try.func30, Try.ntmps30
  go_wp2_with (first
    | (go_at_call 38; (with_reducible refine (HCK.out).mono ?_); rintro e w1 ⟨rfl, ⟨hB, v, hb, hown, hne⟩, hb1⟩; have HR := Lib.hid hown; have HX := Lib.hid hb; have HN := Lib.hid hne; have HL := Lib.hid hB; have HB1 := Lib.hid hb1; have HS1 := Lib.hid (Nat.le_trans HBW.out hb1.size); obtain ⟨c0, c1, c2⟩ := HP.out _ _ hb; clear hb hown hne hb1 hB)
    | (at_builtin; refine Lib.wpList_append_own_string _ rfl _ _ 58 9 rfl B 5 i0 Try.underlying58 Try.underlying9 hi hz0 hz1 hz2 _ _ _ rfl HR.out s rfl HMX.out.1 ?_ ?_ ?_))
  · have := HMX.out; omega
  · exact HS1.out
  intro v2 w2 hown2 hg2 _
  have hx2 := SW.stays HX.out HN.out hg2
  obtain ⟨d0, d1, d2⟩ := HP.out _ _ hx2
  obtain ⟨A2, m2, k2, hv2⟩ := slice_of_row hown2
  subst hv2
  have HE : Hid (SW B b (bs ++ Lib.strCells s) (w2.setCell ⟨b, 1, none⟩ (.slice A2 m2 k2))) := Lib.hid (Lib.BuilderAt.put HL.out hx2 (by rw [List.length_append, Lib.strCells_length]; exact hown2) (by decide))
  have HF : Hid (Below B w (w2.setCell ⟨b, 1, none⟩ (.slice A2 m2 k2))) := Lib.hid ((HB1.out.grown hg2 HS1.out fun k hk => (HR.out.lt k hk).1).setCell (p := ⟨b, 1, none⟩) HL.out _)
  clear hown2 hg2 hx2 c0 c1 c2
  go_wp2
  go_ret2
  exact ⟨rfl, HE.out, HF.out⟩
end Go.Proofs.Ytjifekdjkjnefaa
