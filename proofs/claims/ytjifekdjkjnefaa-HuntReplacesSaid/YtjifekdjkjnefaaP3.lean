/- WriteString, and what it keeps: every block but the builder's own that is no row of bytes. -/
import Derived.Test.YtjifekdjkjnefaaP0
namespace Go.Proofs.Ytjifekdjkjnefaa
open Go.RowKit Go.Shelf

/-- What is no row of bytes, and not b, is as it was. -/
structure SF (b : Nat) (w w' : World) : Prop where
  size : w.heap.size ≤ w'.heap.size
  keep : ∀ (k : Nat) (cur : Array Value) (t : TypeId) (fz : Nat × Nat), w.heap[k]? = some (Obj.cells cur t fz) → t ≠ 5 → k ≠ b → w'.heap[k]? = some (Obj.cells cur t fz)
theorem SF.refl (b : Nat) (w : World) : SF b w w := ⟨Nat.le_refl _, fun _ _ _ _ h _ _ => h⟩
theorem SF.trans {b : Nat} {w w1 w2 : World} (h : SF b w w1) (h' : SF b w1 w2) : SF b w w2 := ⟨Nat.le_trans h.size h'.size, fun k cur t fz hk ht hb => h'.keep k cur t fz (h.keep k cur t fz hk ht hb) ht hb⟩
theorem SF.below {b : Nat} {w w' : World} (h : Below w.heap.size w w') : SF b w w' := ⟨h.size, fun k _ _ _ hk _ _ => (h.block k (Array.getElem?_eq_some_iff.1 hk).1).trans hk⟩
theorem own_kind {w : World} {B : Nat} {e : TypeId} {z : Nat} {v : Value} {n : Nat} {L : List Value} (h : w.ownsRow B e z v n L) {g : Nat} (hg : v.ownBlock = some g) : ∃ cur, w.heap[g]? = some (.cells cur e (0, 0)) := by
  rcases h.2 with ⟨rfl, _⟩ | ⟨g', cap, cur, rfl, _, hh, _⟩
  · cases hg
  · cases hg
    exact ⟨cur, hh⟩
theorem SF.grown {b R : Nat} {w w' : World} {v : Value} {n : Nat} {L : List Value} (hg : w.grownBy w' v.ownBlock) (ho : w.ownsRow R 5 1 v n L) : SF b w w' := ⟨hg.size, fun k cur t fz hk ht _ => (hg.block k (Array.getElem?_eq_some_iff.1 hk).1 (fun e => by
    obtain ⟨cur', h'⟩ := own_kind ho e.symm
    rw [hk] at h'
    cases h'
    exact ht rfl)).trans hk⟩
theorem SF.set (b o : Nat) (v : Value) (w : World) : SF b w (w.setCell ⟨b, o, none⟩ v) := ⟨by rw [World.size_setCell]; exact Nat.le_refl _, fun k _ _ _ hk _ hb => (Below.heap_setCell w ⟨b, o, none⟩ v k hb).trans hk⟩
theorem TW.past {R b : Nat} {p : Value} {bs : List Value} {w w' : World} (h : TW R b p bs w) (hb : Below w.heap.size w w') : TW R b p bs w' := by
  obtain ⟨hR, v, hv, ho⟩ := h
  exact ⟨hR, v, (hb.block b (Array.getElem?_eq_some_iff.1 hv).1).trans hv, own_past ho hb⟩
theorem TB.past {R b : Nat} {bs : List Value} {w w' : World} (h : TB R b bs w) (hb : Below w.heap.size w w') : TB R b bs w' := h.imp (fun h => TW.past h hb) (fun h => TW.past h hb)
set_option maxRecDepth 100000 in
set_option maxHeartbeats 4000000 in
theorem writeStringF (R b : Nat) (bs : List Value) (s : ByteArray) (w : World) (h : TB R b bs w) (hlen : bs.length + s.size ≤ 140737488355328) (hBw : R ≤ w.heap.size) :
    Calls Try.prog 30 #[.pointer (some ⟨b, 0, none⟩), .string s] w fun e w' => e = .returned (.tuple #[.int .i64 s.size, .nilIface]) ∧ TU R b (bs ++ Lib.strCells s) w' ∧ BU b R w w' ∧ SF b w w' := by
  obtain ⟨i0, hi, hz0, hz1, hz2⟩ := sbByte
  have HCK := Lib.hid (checkT R b bs w h)
  have HMX : Hid (bs.length + s.size ≤ maxLen ∧ bs.length + s.size ≤ 140737488355328) := Lib.hid ⟨by unfold maxLen; omega, by omega⟩
  have HBW := Lib.hid hBw
  have HP : Hid (∀ (W : World) (v : Value), W.heap[b]? = some (.cells #[.pointer (some ⟨b, 0, none⟩), v] 60 (0, 0)) → W.cell? ⟨b, 0, none⟩ = some (.pointer (some ⟨b, 0, none⟩)) ∧ W.cell? ⟨b, 1, none⟩ = some v ∧ W.frozen? ⟨b, 1, none⟩ = false) := Lib.hid fun W v hb => ⟨cell_of_row _ _ 0 _ _ _ hb, cell_of_row _ _ 1 _ _ _ hb, Lib.frozen_of_heap hb 1⟩
  clear h hlen hBw
  go_enter Try.func30, Try.ntmps30
  go_wp2_with (first
    | (go_at_call 38; (with_reducible refine (HCK.out).mono ?_); rintro e w1 ⟨rfl, ⟨hB, v, hb, hown⟩, hb1, hoth⟩; have HSF : Hid (SF b w w1) := Lib.hid ⟨hb1.size, fun k _ _ _ hk _ hkb => (hoth k hkb).trans hk⟩; have HR := Lib.hid hown; have HX := Lib.hid hb; have HL := Lib.hid hB; have HB1 := Lib.hid hb1; have HS1 := Lib.hid (Nat.le_trans HBW.out hb1.size); obtain ⟨c0, c1, c2⟩ := HP.out _ _ hb; clear hb hown hb1 hB hoth)
    | (at_builtin; refine Lib.wpList_append_own_string _ rfl _ _ 58 9 rfl R 5 i0 Try.underlying58 Try.underlying9 hi hz0 hz1 hz2 _ _ _ rfl HR.out s rfl HMX.out.1 ?_ ?_ ?_))
  · have := HMX.out; omega
  · exact HS1.out
  intro v2 w2 hown2 hg2 _
  have hx2 := TU.stays HX.out (TW.ne HL.out HR.out) hg2
  obtain ⟨d0, d1, d2⟩ := HP.out _ _ hx2
  obtain ⟨A2, m2, k2, hv2⟩ := slice_of_row hown2
  subst hv2
  have HE : Hid (TU R b (bs ++ Lib.strCells s) (w2.setCell ⟨b, 1, none⟩ (.slice A2 m2 k2))) := Lib.hid (TW.put HL.out hx2 (by rw [List.length_append, Lib.strCells_length]; exact hown2))
  have HF : Hid (BU b R w (w2.setCell ⟨b, 1, none⟩ (.slice A2 m2 k2))) := Lib.hid ((HB1.out.trans (BU.grown hg2 HS1.out fun k hk => (HR.out.lt k hk).1)).set 1 _)
  have HG : Hid (SF b w (w2.setCell ⟨b, 1, none⟩ (.slice A2 m2 k2))) := Lib.hid ((HSF.out.trans (SF.grown hg2 HR.out)).trans (SF.set b 1 _ _))
  clear hown2 hg2 hx2 c0 c1 c2
  go_wp2
  go_ret2
  exact ⟨rfl, HE.out, HF.out, HG.out⟩

end Go.Proofs.Ytjifekdjkjnefaa
