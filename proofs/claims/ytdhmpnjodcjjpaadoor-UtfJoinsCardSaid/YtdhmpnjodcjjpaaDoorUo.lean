/- The walk of the Decoder's Step. -/
import Derived.Test.YtdhmpnjodcjjpaaDoorUn
import Derived.Laws.IdiomCopy
import Derived.Deep.RegionWith
namespace Go.Proofs.YtdhmpnjodcjjpaaDoor
open Go.RowKit

/-- All that lay keeps, but one block. -/
structure But (D : Nat) (w w' : World) : Prop where
  size : w.heap.size ≤ w'.heap.size
  block : ∀ i, i < w.heap.size → i ≠ D → w'.heap[i]? = w.heap[i]?

/-- A Decoder lies at D; ps wait. -/
structure DecL (w : World) (D : Nat) (ps : List Nat) : Prop where
  lt : D < w.heap.size
  len : ps.length ≤ 3
  byte : ∀ p ∈ ps, p < 256
  left : w.cell? ⟨D, 4, none⟩ = some (.int .i64 (ps.length : Nat))
  wait : ∀ k, k < ps.length → w.cell? ⟨D, k, none⟩ = some (.int .u8 (ps[k]?.getD 0 : Nat))
  room : ∀ k, k < 4 → ∃ v : Nat, w.cell? ⟨D, k, none⟩ = some (.int .u8 v)
  free : ∀ k, k < 5 → w.frozen? ⟨D, k, none⟩ = false

theorem dec_put (w : World) (D : Nat) (ps : List Nat) (z : Nat) (hz : z < 256) (h : DecL w D ps) :
    BS (w.setCell ⟨D, ps.length, none⟩ (.int .u8 z)) w.heap.size (some ⟨D, 0, none⟩) (ps ++ [z]) := by
  refine ⟨fun x hx => ?_, fun _ => ⟨D, 0, rfl, h.lt, fun k hk => ?_⟩⟩
  · rcases List.mem_append.1 hx with hx | hx
    · exact h.byte x hx
    · simp at hx; omega
  · simp only [List.length_append, List.length_cons, List.length_nil] at hk
    rw [Nat.zero_add]
    by_cases hk' : k < ps.length
    · rw [World.cell?_setCell_other _ _ _ _ (by simp; try omega), h.wait k hk']
      rw [List.getElem?_append_left hk']
    · obtain rfl : k = ps.length := by omega
      obtain ⟨v, hv⟩ := h.room ps.length (by have := h.len; omega)
      rw [World.cell?_setCell_same _ _ _ hv]
      simp

theorem UT.setCell {w : World} (h : UT w) (D i : Nat) (v : Value) (h1 : D ≠ 0) (h2 : D ≠ 1) : UT (w.setCell ⟨D, i, none⟩ v) :=
  ⟨⟨fun c hc => (World.cell?_setCell_other _ _ _ _ (by simp; try omega)).trans (h.1.1 c hc), fun i hi => ⟨(World.cell?_setCell_other _ _ _ _ (by simp; try omega)).trans (h.1.2 i hi).1, (World.cell?_setCell_other _ _ _ _ (by simp; try omega)).trans (h.1.2 i hi).2⟩⟩, by simpa using h.2.1, by simpa using h.2.2⟩

theorem dec_read (w : World) (D : Nat) (ps : List Nat) (z : Nat) (hz : z < 256) (h : DecL w D ps) (hT : UT w) (hm : max 0 1 + 1 ≤ w.heap.size) (h1 : D ≠ 0) (h2 : D ≠ 1) (n : Nat) (hn : n = ps.length + 1) (W : World) (hW : W = (w.setCell ⟨D, ps.length, none⟩ (.int .u8 z)).drew.drew) :
    Calls Tryd.prog 24 #[.slice (some ⟨D, 0, none⟩) n 4] W (RdPost (ps ++ [z]) W) := by
  subst hW
  have hl := h.len
  refine read_any _ (ps ++ [z]) n 4 (by simp; omega) (by omega) (by omega) (by omega) _ ?_ ?_ ?_
  · show _ ≤ (w.setCell _ _).heap.size
    rw [World.size_setCell]
    exact hm
  · exact hT.setCell D ps.length (.int .u8 z) h1 h2
  · have := dec_put w D ps z hz h
    show BS _ (w.setCell _ _).heap.size _ _
    rw [World.size_setCell]
    exact this

/-- What lies where the Decoder lies, behind the reading. -/
theorem dec_after (w : World) (D : Nat) (ps : List Nat) (z : Nat) (hz : z < 256) (h : DecL w D ps) (w2 : World) (hb : Below (w.setCell ⟨D, ps.length, none⟩ (.int .u8 z)).drew.drew.heap.size (w.setCell ⟨D, ps.length, none⟩ (.int .u8 z)).drew.drew w2) :
    D < w2.heap.size ∧ (∀ k, k < ps.length + 1 → w2.cell? ⟨D, k, none⟩ = some (.int .u8 ((ps ++ [z])[k]?.getD 0 : Nat))) ∧ (∀ k, k < 4 → ∃ v : Nat, w2.cell? ⟨D, k, none⟩ = some (.int .u8 v)) ∧ (∀ k, k < 5 → w2.frozen? ⟨D, k, none⟩ = false) ∧ w2.cell? ⟨D, 4, none⟩ = some (.int .i64 (ps.length : Nat)) ∧ w.grownBy w2 (some D) := by
  have hsz : (w.setCell ⟨D, ps.length, none⟩ (.int .u8 z)).drew.drew.heap.size = w.heap.size := World.size_setCell ..
  have hbs := hb.size
  rw [hsz] at hb hbs
  have hD := h.lt
  have hl := h.len
  have cell : ∀ k, w2.cell? ⟨D, k, none⟩ = (w.setCell ⟨D, ps.length, none⟩ (.int .u8 z)).cell? ⟨D, k, none⟩ := fun k => hb.cell (p := ⟨D, k, none⟩) hD
  have hB := dec_put w D ps z hz h
  obtain ⟨b', off', e, _, hc⟩ := hB.2 (by simp)
  obtain ⟨rfl, rfl⟩ : D = b' ∧ 0 = off' := by simpa using e
  have c1 : ∀ k, k < ps.length + 1 → w2.cell? ⟨D, k, none⟩ = some (.int .u8 ((ps ++ [z])[k]?.getD 0 : Nat)) := fun k hk => by
    have := hc k (by simp; omega)
    rw [Nat.zero_add] at this
    rw [cell, this]
  refine ⟨Nat.lt_of_lt_of_le hD hbs, c1, fun k hk => ?_, fun k hk => ?_, ?_, ⟨hb.os, hb.tape, hb.output, hbs, fun i hi hne => ?_⟩⟩
  · rcases Nat.lt_or_ge k (ps.length + 1) with h' | h'
    · exact ⟨_, c1 k h'⟩
    · rw [cell, World.cell?_setCell_other _ _ _ _ (by simp; try omega)]
      exact h.room k hk
  · have e1 : w2.frozen? ⟨D, k, none⟩ = (w.setCell ⟨D, ps.length, none⟩ (.int .u8 z)).frozen? ⟨D, k, none⟩ := hb.frozen (p := ⟨D, k, none⟩) hD
    rw [e1, World.frozen?_setCell]
    exact h.free k hk
  · rw [cell, World.cell?_setCell_other _ _ _ _ (by simp; try omega)]
    exact h.left
  · rw [hb.block i hi]
    exact heap_setCell_other w ⟨D, ps.length, none⟩ i _ (fun e => hne (by rw [e]))

theorem grown_drew {w w' : World} {o : Option Nat} (h : w.grownBy w' o) : w.grownBy w'.drew o := ⟨h.os, h.tape, h.output, h.size, h.block⟩
theorem grown_cells {w : World} {D : Nat} : ∀ (vs : List Value) (o : Nat) (w' : World), w.grownBy w' (some D) → w.grownBy (w'.setCells D o vs) (some D)
  | [], _, _, h => h
  | v :: vs, o, w', h => grown_cells vs (o + 1) _ ⟨h.os, h.tape, h.output, by rw [World.size_setCell]; exact h.size, fun k hk hne => (heap_setCell_other w' ⟨D, o, none⟩ k v (fun e => hne (by rw [e]))).trans (h.block k hk hne)⟩
theorem size_setCells (D : Nat) : ∀ (vs : List Value) (o : Nat) (w : World), (w.setCells D o vs).heap.size = w.heap.size
  | [], _, _ => rfl
  | _ :: vs, o, _ => (size_setCells D vs (o + 1) _).trans (World.size_setCell ..)

/-- What waits is moved ahead. -/
theorem dec_copy (w w2 : World) (D : Nat) (zs : List Nat) (u m c : Nat) (hm : m + u = zs.length) (_ : zs.length ≤ 4) (hm0 : 0 < m) (hm3 : m ≤ 3) (hz : ∀ z ∈ zs, z < 256) (hD : D < w2.heap.size)
    (hc : ∀ k, k < zs.length → w2.cell? ⟨D, k, none⟩ = some (.int .u8 (zs[k]?.getD 0 : Nat))) (hr : ∀ k, k < 4 → ∃ v : Nat, w2.cell? ⟨D, k, none⟩ = some (.int .u8 v)) (hf : ∀ k, k < 5 → w2.frozen? ⟨D, k, none⟩ = false) (l : Nat) (hl : w2.cell? ⟨D, 4, none⟩ = some (.int .i64 l)) (hg : w.grownBy w2 (some D)) :
    ∃ w3 : World, (Builtin.copy_ #[22, 22] 3 #[.slice (some ⟨D, 0, none⟩) 4 4, .slice (some ⟨D, u, none⟩) m c]).run Tryd.prog w2.drew = .ok (.int .i64 m) w3 ∧ w3.cell? ⟨D, 4, none⟩ = some (.int .i64 l) ∧ w3.frozen? ⟨D, 4, none⟩ = false ∧
      DecL (w3.setCell ⟨D, 4, none⟩ (.int .i64 m)) D (zs.drop u) ∧ w.grownBy (w3.setCell ⟨D, 4, none⟩ (.int .i64 m)) (some D) := by
  let cs : List Value := (zs.drop u).map fun z => Value.int .u8 (z : Nat)
  have hlen : cs.length = m := by simp only [cs, List.length_map, List.length_drop]; omega
  have hcs : ∀ j v, cs[j]? = some v → w2.drew.cell? ((⟨D, u, none⟩ : Addr).add j) = some v := fun j v hj => by
    have hj' : j < m := by rw [← hlen]; exact (List.getElem?_eq_some_iff.1 hj).1
    have ea : (⟨D, u, none⟩ : Addr).add j = ⟨D, u + j, none⟩ := by unfold Addr.add; split <;> simp_all
    rw [ea]
    refine (hc (u + j) (by omega)).trans ?_
    simp only [cs, List.getElem?_map, List.getElem?_drop] at hj
    rw [List.getElem?_eq_getElem (by omega)] at hj ⊢
    simpa using hj
  have hrun := run_copy_cells (P := Tryd.prog) w2.drew 22 22 3 5 D 0 4 4 ⟨D, u, none⟩ m c cs (by kernel_rfl) (by kernel_rfl) (by rw [hlen]; exact (Nat.min_eq_left (by omega)).symm) hcs (fun j hj => by
    obtain ⟨v, hv⟩ := hr j (by omega)
    rw [Nat.zero_add]
    show (w2.cell? _).isSome = true
    rw [hv]; rfl) (fun j hj => by rw [Nat.zero_add]; exact hf j (by omega)) (fun v hv => by
    obtain ⟨z, _, rfl⟩ := List.mem_map.1 hv
    simp [Value.oneCell'])
  rw [hlen] at hrun
  have c4 : (w2.drew.setCells D 0 cs).cell? ⟨D, 4, none⟩ = some (.int .i64 l) := (World.cell?_setCells_out D cs 0 w2.drew ⟨D, 4, none⟩ (fun _ _ => .inr (by show 0 + cs.length ≤ 4; omega))).trans hl
  have cin : ∀ j, j < m → (w2.drew.setCells D 0 cs).cell? ⟨D, j, none⟩ = some (.int .u8 ((zs.drop u)[j]?.getD 0 : Nat)) := fun j hj => by
    have := World.cell?_setCells_in D cs 0 w2.drew (fun j hj => by
      obtain ⟨v, hv⟩ := hr j (by omega)
      rw [Nat.zero_add]
      show (w2.cell? _).isSome = true
      rw [hv]; rfl) j (by omega)
    rw [Nat.zero_add] at this
    rw [this]
    simp only [cs, List.getElem_map]
    rw [List.getElem?_eq_getElem (by simp; omega)]
    rfl
  refine ⟨w2.drew.setCells D 0 cs, hrun, c4, (World.frozen?_setCells ..).trans (hf 4 (by omega)), ⟨?_, ?_, ?_, ?_, ?_, ?_, ?_⟩, ?_⟩
  · rw [World.size_setCell, size_setCells]; exact hD
  · simp; omega
  · exact fun p hp => hz p (List.mem_of_mem_drop hp)
  · rw [World.cell?_setCell_same _ _ _ c4]
    simp only [List.length_drop]
    congr 3
    omega
  · intro k hk
    simp only [List.length_drop] at hk
    rw [World.cell?_setCell_other _ _ _ _ (by simp; try omega)]
    exact cin k (by omega)
  · intro k hk
    rw [World.cell?_setCell_other _ _ _ _ (by simp; try omega)]
    rcases Nat.lt_or_ge k m with h | h
    · exact ⟨_, cin k h⟩
    · rw [World.cell?_setCells_out D cs 0 w2.drew ⟨D, k, none⟩ (fun _ _ => .inr (by show 0 + cs.length ≤ k; omega))]
      exact hr k hk
  · intro k hk
    rw [World.frozen?_setCell]
    exact (World.frozen?_setCells ..).trans (hf k hk)
  · exact grown_cells [.int .i64 m] 4 _ (grown_cells cs 0 _ (grown_drew hg))

/-- Nothing waits. -/
theorem dec_empty (w w2 : World) (D : Nat) (zs : List Nat) (u : Nat) (hu : u = zs.length) (hD : D < w2.heap.size)
    (hr : ∀ k, k < 4 → ∃ v : Nat, w2.cell? ⟨D, k, none⟩ = some (.int .u8 v)) (hf : ∀ k, k < 5 → w2.frozen? ⟨D, k, none⟩ = false) (l : Nat) (hl : w2.cell? ⟨D, 4, none⟩ = some (.int .i64 l)) (hg : w.grownBy w2 (some D)) :
    (∀ a c, (Builtin.copy_ #[22, 22] 3 #[.slice (some ⟨D, 0, none⟩) 4 4, .slice a 0 c]).run Tryd.prog w2.drew = .ok (.int .i64 0) w2.drew) ∧
      DecL (w2.drew.setCell ⟨D, 4, none⟩ (.int .i64 0)) D (zs.drop u) ∧ w.grownBy (w2.drew.setCell ⟨D, 4, none⟩ (.int .i64 0)) (some D) := by
  have e : zs.drop u = [] := List.drop_of_length_le (by omega)
  rw [e]
  refine ⟨fun a c => run_copy_none w2.drew 22 22 3 5 _ a 4 4 0 c (by kernel_rfl) (by kernel_rfl) rfl, ⟨?_, by simp, by simp, ?_, fun k hk => by simp at hk, ?_, ?_⟩, ?_⟩
  · rw [World.size_setCell]; exact hD
  · exact World.cell?_setCell_same _ _ _ hl
  · intro k hk
    rw [World.cell?_setCell_other _ _ _ _ (by simp; try omega)]
    exact hr k hk
  · intro k hk
    rw [World.frozen?_setCell]
    exact hf k hk
  · exact grown_cells [.int .i64 0] 4 _ (grown_drew hg)

theorem grown_refl (w : World) (o : Option Nat) : w.grownBy w o := ⟨rfl, rfl, rfl, Nat.le_refl _, fun _ _ _ => rfl⟩
theorem grown_trans {a b c : World} {o : Option Nat} (h : a.grownBy b o) (h' : b.grownBy c o) : a.grownBy c o :=
  ⟨h'.os.trans h.os, h'.tape.trans h.tape, h'.output.trans h.output, Nat.le_trans h.size h'.size, fun k hk hn => (h'.block k (Nat.lt_of_lt_of_le hk h.size) hn).trans (h.block k hk hn)⟩
theorem owns_past {w2 w' : World} {base D n : Nat} {v : Value} {xs : List Value} (h : w2.ownsRow base 21 1 v n xs) (hD : D < base) (hg : w2.grownBy w' (some D)) : w'.ownsRow base 21 1 v n xs :=
  h.kept hg (.inr fun e => absurd (h.lt D e).1 (by omega))

end Go.Proofs.YtdhmpnjodcjjpaaDoor
