/- A strings.Builder whose row lies from a base above its own block on: what WriteByte, WriteString and Write leave of the blocks between. -/
import Derived.Test.YtjifekdjkjnefaaGu
import Derived.Test.YtjifekdjkjnefaaKi
namespace Go.Proofs.Ytjifekdjkjnefaa
open Go.RowKit Go.Shelf

/-- A builder in block b holds the bytes bs; its row lies from R on, which is above b. -/
def TW (R b : Nat) (p : Value) (bs : List Value) (w : World) : Prop :=
  b < R ∧ ∃ v, w.heap[b]? = some (.cells #[p, v] 60 (0, 0)) ∧ w.ownsRow R 5 1 v bs.length bs
abbrev TU (R b : Nat) (bs : List Value) (w : World) : Prop := TW R b (.pointer (some ⟨b, 0, none⟩)) bs w
abbrev TB (R b : Nat) (bs : List Value) (w : World) : Prop := TW R b (.pointer none) bs w ∨ TU R b bs w
/-- Below R no block is turned but b. -/
structure BU (b R : Nat) (w w' : World) : Prop where
  os : w'.os = w.os
  tape : w'.tape = w.tape
  output : w'.output = w.output
  size : w.heap.size ≤ w'.heap.size
  block : ∀ k, k < R → k ≠ b → w'.heap[k]? = w.heap[k]?
theorem BU.refl (b R : Nat) (w : World) : BU b R w w := ⟨rfl, rfl, rfl, Nat.le_refl _, fun _ _ _ => rfl⟩
theorem BU.trans {b R : Nat} {w w1 w2 : World} (h : BU b R w w1) (h' : BU b R w1 w2) : BU b R w w2 :=
  ⟨h'.os.trans h.os, h'.tape.trans h.tape, h'.output.trans h.output, Nat.le_trans h.size h'.size, fun k hk hb => (h'.block k hk hb).trans (h.block k hk hb)⟩
theorem BU.set {b R : Nat} {w w1 : World} (h : BU b R w w1) (o : Nat) (v : Value) : BU b R w (w1.setCell ⟨b, o, none⟩ v) :=
  h.trans ⟨rfl, rfl, rfl, by rw [World.size_setCell]; exact Nat.le_refl _, fun k _ hb => Below.heap_setCell w1 ⟨b, o, none⟩ v k hb⟩
theorem BU.of_below {b R B : Nat} {w w' : World} (h : Below B w w') (hR : R ≤ B) : BU b R w w' :=
  ⟨h.os, h.tape, h.output, h.size, fun k hk _ => h.block k (by omega)⟩
theorem BU.grown {b R : Nat} {w w' : World} {row : Option Nat} (h : w.grownBy w' row) (hs : R ≤ w.heap.size) (hr : ∀ k, row = some k → R ≤ k) : BU b R w w' :=
  ⟨h.os, h.tape, h.output, h.size, fun k hk _ => h.block k (by omega) (fun e => by have := hr k e.symm; omega)⟩
theorem BU.below {b R B : Nat} {w w' : World} (h : BU b R w w') (hb : B ≤ b) (hR : b < R) : Below B w w' :=
  ⟨h.os, h.tape, h.output, h.size, fun k hk => h.block k (by omega) (by omega)⟩
theorem TW.ne {R b : Nat} {v : Value} {L : List Value} {n : Nat} {w : World} (hR : b < R) (h : w.ownsRow R 5 1 v n L) : v.ownBlock ≠ some b := fun e => by
  have := (h.lt b e).1; omega
/-- The same builder as the shelf knows it. -/
theorem TW.at {R b B : Nat} {p : Value} {bs : List Value} {w : World} (h : TW R b p bs w) (hB : B ≤ b) : Lib.BuilderAt 60 5 B b p bs w := by
  obtain ⟨hR, v, hv, ho⟩ := h
  exact ⟨hB, v, hv, own_mono ho (by omega), TW.ne hR ho⟩
theorem TB.at {R b B : Nat} {bs : List Value} {w : World} (h : TB R b bs w) (hB : B ≤ b) : SB B b bs w := h.elim (fun h => .inl (TW.at h hB)) (fun h => .inr (TW.at h hB))
theorem TW.used {R b : Nat} {p : Value} {bs : List Value} {w : World} (h : TW R b p bs w) (q : Value) : TW R b q bs (w.setCell ⟨b, 0, none⟩ q) := by
  obtain ⟨hR, v, hv, ho⟩ := h
  refine ⟨hR, v, by simp [World.setCell, Array.getElem?_modify, hv], ho.kept (row := some b) ⟨rfl, rfl, rfl, by simp [World.setCell], fun k _ hk => Below.heap_setCell _ _ _ _ (fun e => hk (by simp [e]))⟩ (.inr (TW.ne hR ho))⟩
theorem TW.put {R b : Nat} {p v v' : Value} {bs : List Value} {w : World} (hR : b < R) (hb : w.heap[b]? = some (.cells #[p, v] 60 (0, 0))) (ho : w.ownsRow R 5 1 v' bs.length bs) : TW R b p bs (w.setCell ⟨b, 1, none⟩ v') :=
  ⟨hR, v', by simp [World.setCell, Array.getElem?_modify, hb], ho.kept (row := some b) ⟨rfl, rfl, rfl, by simp [World.setCell], fun k _ hk => Below.heap_setCell _ _ _ _ (fun e => hk (by simp [e]))⟩ (.inr (TW.ne hR ho))⟩
set_option maxRecDepth 100000 in
set_option maxHeartbeats 4000000 in
theorem checkT (R b : Nat) (bs : List Value) (w : World) (h : TB R b bs w) :
    Calls Try.prog 38 #[.pointer (some ⟨b, 0, none⟩)] w fun e w' => e = .returned (.tuple #[]) ∧ TU R b bs w' ∧ BU b R w w' ∧ (∀ j, j ≠ b → w'.heap[j]? = w.heap[j]?) := by
  obtain ⟨j, hj, hjs⟩ := sbInfo
  rcases h with h | h
  · have h' := TW.at h (Nat.zero_le b)
    have c0 := h'.cell0
    have hf := h'.frozen0
    have ht := Lib.run_to_unsafe w ⟨b, 0, none⟩ Try.underlying57 Try.underlying81 hj (by omega) h'.shape (Nat.zero_lt_succ 1)
    have hr := Lib.run_from_unsafe w ⟨b, 0, none⟩ Try.underlying81 Try.underlying57 hj h'.shape (by kernel_rfl)
    have he := sbEscape (.pointer (some ⟨b, 0, none⟩)) w
    have HU := Lib.hid (h.used (.pointer (some ⟨b, 0, none⟩)))
    have HB := Lib.hid ((BU.refl b R w).set 0 (.pointer (some ⟨b, 0, none⟩)))
    have HO : Hid (∀ j, j ≠ b → (w.setCell ⟨b, 0, none⟩ (.pointer (some ⟨b, 0, none⟩))).heap[j]? = w.heap[j]?) := Lib.hid fun j hj => Below.heap_setCell w ⟨b, 0, none⟩ _ j hj
    clear h h' hj hjs
    go_enter Try.func38, Try.ntmps38
    go_wp2
    go_end0
    exact ⟨rfl, HU.out, HB.out, HO.out⟩
  · have c0 := (TW.at h (Nat.zero_le b)).cell0
    have hq := Lib.run_neq_ptr_same w (⟨b, 0, none⟩ : Addr) Try.underlying57 hj
    have HU := Lib.hid h
    have HB := Lib.hid (BU.refl b R w)
    clear h hj hjs
    go_enter Try.func38, Try.ntmps38
    go_wp2
    go_end0
    exact ⟨rfl, HU.out, HB.out, fun _ _ => rfl⟩
theorem TU.stays {b : Nat} {p v : Value} {w w' : World} (hb : w.heap[b]? = some (.cells #[p, v] 60 (0, 0))) (hne : v.ownBlock ≠ some b) (hg : w.grownBy w' v.ownBlock) : w'.heap[b]? = some (.cells #[p, v] 60 (0, 0)) :=
  (hg.block b (Array.getElem?_eq_some_iff.1 hb).1 fun e => hne e.symm).trans hb
set_option maxRecDepth 100000 in
set_option maxHeartbeats 4000000 in
theorem writeStringT (R b : Nat) (bs : List Value) (s : ByteArray) (w : World) (h : TB R b bs w) (hlen : bs.length + s.size ≤ 140737488355328) (hBw : R ≤ w.heap.size) :
    Calls Try.prog 30 #[.pointer (some ⟨b, 0, none⟩), .string s] w fun e w' => e = .returned (.tuple #[.int .i64 s.size, .nilIface]) ∧ TU R b (bs ++ Lib.strCells s) w' ∧ BU b R w w' := by
  obtain ⟨i0, hi, hz0, hz1, hz2⟩ := sbByte
  have HCK := Lib.hid (checkT R b bs w h)
  have HMX : Hid (bs.length + s.size ≤ maxLen ∧ bs.length + s.size ≤ 140737488355328) := Lib.hid ⟨by unfold maxLen; omega, by omega⟩
  have HBW := Lib.hid hBw
  have HP : Hid (∀ (W : World) (v : Value), W.heap[b]? = some (.cells #[.pointer (some ⟨b, 0, none⟩), v] 60 (0, 0)) → W.cell? ⟨b, 0, none⟩ = some (.pointer (some ⟨b, 0, none⟩)) ∧ W.cell? ⟨b, 1, none⟩ = some v ∧ W.frozen? ⟨b, 1, none⟩ = false) := Lib.hid fun W v hb => ⟨cell_of_row _ _ 0 _ _ _ hb, cell_of_row _ _ 1 _ _ _ hb, Lib.frozen_of_heap hb 1⟩
  clear h hlen hBw
  go_enter Try.func30, Try.ntmps30
  go_wp2_with (first
    | (go_at_call 38; (with_reducible refine (HCK.out).mono ?_); rintro e w1 ⟨rfl, ⟨hB, v, hb, hown⟩, hb1, _⟩; have HR := Lib.hid hown; have HX := Lib.hid hb; have HL := Lib.hid hB; have HB1 := Lib.hid hb1; have HS1 := Lib.hid (Nat.le_trans HBW.out hb1.size); obtain ⟨c0, c1, c2⟩ := HP.out _ _ hb; clear hb hown hb1 hB)
    | (at_builtin; refine Lib.wpList_append_own_string _ rfl _ _ 58 9 rfl R 5 i0 Try.underlying58 Try.underlying9 hi hz0 hz1 hz2 _ _ _ rfl HR.out s rfl HMX.out.1 ?_ ?_ ?_))
  · have := HMX.out; omega
  · exact HS1.out
  intro v2 w2 hown2 hg2 _
  have hx2 := TU.stays HX.out (TW.ne HL.out HR.out) hg2
  obtain ⟨d0, d1, d2⟩ := HP.out _ _ hx2
  obtain ⟨A2, m2, k2, hv2⟩ := slice_of_row hown2
  subst hv2
  have HE : Hid (TU R b (bs ++ Lib.strCells s) (w2.setCell ⟨b, 1, none⟩ (.slice A2 m2 k2))) := Lib.hid (TW.put HL.out hx2 (by rw [List.length_append, Lib.strCells_length]; exact hown2))
  have HF : Hid (BU b R w (w2.setCell ⟨b, 1, none⟩ (.slice A2 m2 k2))) := Lib.hid ((HB1.out.trans (BU.grown hg2 HS1.out fun k hk => (HR.out.lt k hk).1)).set 1 _)
  clear hown2 hg2 hx2 c0 c1 c2
  go_wp2
  go_ret2
  exact ⟨rfl, HE.out, HF.out⟩
/-- The cells news lie at G. -/
def atG (G : Nat) (news : List Value) (w : World) : Prop := ∀ j u, news[j]? = some u → w.cell? ((⟨G, 0, none⟩ : Addr).add j) = some u
theorem atG.kept {G : Nat} {news : List Value} {w w' : World} (h : atG G news w) (hk : w'.heap[G]? = w.heap[G]?) : atG G news w' := fun j u hj => by
  have h1 := h j u hj
  rw [World.cell?_of_block (a := (⟨G, 0, none⟩ : Addr).add j) (w := w) (w' := w') (by rw [show ((⟨G, 0, none⟩ : Addr).add j).block = G by unfold Addr.add; split <;> rfl]; exact hk)]
  exact h1
end Go.Proofs.Ytjifekdjkjnefaa
