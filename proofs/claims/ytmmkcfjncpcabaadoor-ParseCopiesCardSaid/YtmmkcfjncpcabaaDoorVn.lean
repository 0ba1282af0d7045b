/- The walk of the Decoder's Step. -/
import Derived.Test.YtmmkcfjncpcabaaDoorVm
import Derived.Laws.IdiomCopy
import Derived.Deep.RegionWith
namespace Go.Proofs.YtmmkcfjncpcabaaDoor
open Go.RowKit

/-- All that lay keeps, but one block. -/
structure But (D : Nat) (w w' : World) : Prop where
  size : w.heap.size ≤ w'.heap.size
  block : ∀ i, i < w.heap.size → i ≠ D → w'.heap[i]? = w.heap[i]?

/-- A Decoder lies at D; ps wait. -/
structure DecL (w : World) (D : Nat) (ps : List Nat) : Prop where
  lt : D < w.heap.size
  len : ps.length ≤ 3
  byte : ∀ p ∈ ps, p < 256
  left : w.cell? ⟨D, 13, none⟩ = some (.int .i64 (ps.length : Nat))
  wait : ∀ k, k < ps.length → w.cell? ⟨D, 9 + k, none⟩ = some (.int .u8 (ps[k]?.getD 0 : Nat))
  room : ∀ k, k < 4 → ∃ v : Nat, w.cell? ⟨D, 9 + k, none⟩ = some (.int .u8 v)
  free : ∀ k, k < 5 → w.frozen? ⟨D, 9 + k, none⟩ = false

theorem dec_put (w : World) (D : Nat) (ps : List Nat) (z : Nat) (hz : z < 256) (h : DecL w D ps) :
    BS (w.setCell ⟨D, 9 + ps.length, none⟩ (.int .u8 z)) w.heap.size (some ⟨D, 9, none⟩) (ps ++ [z]) := by
  refine ⟨fun x hx => ?_, fun _ => ⟨D, 9, rfl, h.lt, fun k hk => ?_⟩⟩
  · rcases List.mem_append.1 hx with hx | hx
    · exact h.byte x hx
    · simp at hx; omega
  · simp only [List.length_append, List.length_cons, List.length_nil] at hk
    by_cases hk' : k < ps.length
    · rw [World.cell?_setCell_other _ _ _ _ (by simp; try omega), h.wait k hk']
      rw [List.getElem?_append_left hk']
    · obtain rfl : k = ps.length := by omega
      obtain ⟨v, hv⟩ := h.room ps.length (by have := h.len; omega)
      rw [World.cell?_setCell_same _ _ _ hv]
      simp

theorem UT.setCell {w : World} (h : UT w) (D i : Nat) (v : Value) (h1 : D ≠ 0) (h2 : D ≠ 1) : UT (w.setCell ⟨D, i, none⟩ v) :=
  ⟨⟨fun c hc => (World.cell?_setCell_other _ _ _ _ (by simp; try omega)).trans (h.1.1 c hc), fun i hi => ⟨(World.cell?_setCell_other _ _ _ _ (by simp; try omega)).trans (h.1.2 i hi).1, (World.cell?_setCell_other _ _ _ _ (by simp; try omega)).trans (h.1.2 i hi).2⟩⟩, by simpa using h.2.1, by simpa using h.2.2⟩

theorem dec_read (w : World) (D : Nat) (ps : List Nat) (z : Nat) (hz : z < 256) (h : DecL w D ps) (hT : UT w) (hm : max 0 1 + 1 ≤ w.heap.size) (h1 : D ≠ 0) (h2 : D ≠ 1) (n : Nat) (hn : n = ps.length + 1) (W : World) (hW : W = (w.setCell ⟨D, 9 + ps.length, none⟩ (.int .u8 z)).drew.drew) :
    Calls Tryd.prog 71 #[.slice (some ⟨D, 9, none⟩) n 4] W (RdPost (ps ++ [z]) W) := by
  subst hW
  have hl := h.len
  refine read_any _ (ps ++ [z]) n 4 (by simp; omega) (by omega) (by omega) (by omega) _ ?_ ?_ ?_
  · show _ ≤ (w.setCell _ _).heap.size
    rw [World.size_setCell]
    exact hm
  · exact hT.setCell D (9 + ps.length) (.int .u8 z) h1 h2
  · have := dec_put w D ps z hz h
    show BS _ (w.setCell _ _).heap.size _ _
    rw [World.size_setCell]
    exact this

theorem grown_drewD {w w' : World} {o : Option Nat} (h : w.grownBy w' o) : w.grownBy w'.drew o := ⟨h.os, h.tape, h.output, h.size, h.block⟩
theorem grown_cells {w : World} {D : Nat} : ∀ (vs : List Value) (o : Nat) (w' : World), w.grownBy w' (some D) → w.grownBy (w'.setCells D o vs) (some D)
  | [], _, _, h => h
  | v :: vs, o, w', h => grown_cells vs (o + 1) _ ⟨h.os, h.tape, h.output, by rw [World.size_setCell]; exact h.size, fun k hk hne => (heap_setCell_other w' ⟨D, o, none⟩ k v (fun e => hne (by rw [e]))).trans (h.block k hk hne)⟩
theorem size_setCells (D : Nat) : ∀ (vs : List Value) (o : Nat) (w : World), (w.setCells D o vs).heap.size = w.heap.size
  | [], _, _ => rfl
  | _ :: vs, o, _ => (size_setCells D vs (o + 1) _).trans (World.size_setCell ..)

/-- But for the Decoder's own cells nothing of the block has turned, and no other block. -/
structure GD (D : Nat) (w w' : World) : Prop where
  g : w.grownBy w' (some D)
  rest : ∀ k, k < 9 ∨ 13 < k → w'.cell? ⟨D, k, none⟩ = w.cell? ⟨D, k, none⟩
  fr : ∀ k, w'.frozen? ⟨D, k, none⟩ = w.frozen? ⟨D, k, none⟩
  shape : ∀ cur t, w.heap[D]? = some (.cells cur t (0, 0)) → ∃ cur', w'.heap[D]? = some (.cells cur' t (0, 0))
theorem shape_cells {D : Nat} {t : TypeId} : ∀ (vs : List Value) (o : Nat) (w : World) (cur : Array Value), w.heap[D]? = some (.cells cur t (0, 0)) → ∃ cur', (w.setCells D o vs).heap[D]? = some (.cells cur' t (0, 0))
  | [], _, _, cur, h => ⟨cur, h⟩
  | v :: vs, o, w, cur, h => shape_cells vs (o + 1) _ _ (heap_setCell_same w D o cur t v h)
theorem GD.refl (D : Nat) (w : World) : GD D w w := ⟨⟨rfl, rfl, rfl, Nat.le_refl _, fun _ _ _ => rfl⟩, fun _ _ => rfl, fun _ => rfl, fun cur _ h => ⟨cur, h⟩⟩
theorem GD.drew {D : Nat} {w w' : World} (h : GD D w w') : GD D w w'.drew := ⟨grown_drewD h.g, fun k hk => h.rest k hk, fun k => h.fr k, fun cur t hc => h.shape cur t hc⟩
theorem GD.trans {D : Nat} {a b c : World} (h : GD D a b) (h' : GD D b c) : GD D a c :=
  ⟨⟨h'.g.os.trans h.g.os, h'.g.tape.trans h.g.tape, h'.g.output.trans h.g.output, Nat.le_trans h.g.size h'.g.size, fun k hk hn => (h'.g.block k (Nat.lt_of_lt_of_le hk h.g.size) hn).trans (h.g.block k hk hn)⟩, fun k hk => (h'.rest k hk).trans (h.rest k hk), fun k => (h'.fr k).trans (h.fr k), fun cur t hc => (h.shape cur t hc).elim fun c1 h1 => h'.shape c1 t h1⟩
theorem GD.cells {D : Nat} {w w' : World} (cs : List Value) (hl : cs.length ≤ 4) (h : GD D w w') : GD D w (w'.setCells D 9 cs) :=
  ⟨grown_cells cs 9 _ h.g, fun k hk => (World.cell?_setCells_out D cs 9 w' ⟨D, k, none⟩ (fun _ _ => by
    rcases hk with h1 | h1
    · exact .inl h1
    · exact .inr (by show 9 + cs.length ≤ k; omega))).trans (h.rest k hk), fun k => (World.frozen?_setCells ..).trans (h.fr k), fun cur t hc => (h.shape cur t hc).elim fun c1 h1 => shape_cells cs 9 w' c1 h1⟩
theorem GD.set13 {D : Nat} {w w' : World} (v : Value) (h : GD D w w') : GD D w (w'.setCell ⟨D, 13, none⟩ v) :=
  ⟨grown_cells [v] 13 _ h.g, fun k hk => (World.cell?_setCell_other _ _ _ _ (by simp; try omega)).trans (h.rest k hk), fun k => (World.frozen?_setCell ..).trans (h.fr k), fun cur t hc => (h.shape cur t hc).elim fun c1 h1 => ⟨_, heap_setCell_same w' D 13 c1 t v h1⟩⟩

/-- What lies where the Decoder lies, behind the reading. -/
theorem dec_after (w : World) (D : Nat) (ps : List Nat) (z : Nat) (hz : z < 256) (h : DecL w D ps) (w2 : World) (hb : Below (w.setCell ⟨D, 9 + ps.length, none⟩ (.int .u8 z)).drew.drew.heap.size (w.setCell ⟨D, 9 + ps.length, none⟩ (.int .u8 z)).drew.drew w2) :
    D < w2.heap.size ∧ (∀ k, k < ps.length + 1 → w2.cell? ⟨D, 9 + k, none⟩ = some (.int .u8 ((ps ++ [z])[k]?.getD 0 : Nat))) ∧ (∀ k, k < 4 → ∃ v : Nat, w2.cell? ⟨D, 9 + k, none⟩ = some (.int .u8 v)) ∧ (∀ k, k < 5 → w2.frozen? ⟨D, 9 + k, none⟩ = false) ∧ w2.cell? ⟨D, 13, none⟩ = some (.int .i64 (ps.length : Nat)) ∧ GD D w w2 := by
  have hsz : (w.setCell ⟨D, 9 + ps.length, none⟩ (.int .u8 z)).drew.drew.heap.size = w.heap.size := World.size_setCell ..
  have hbs := hb.size
  rw [hsz] at hb hbs
  have hD := h.lt
  have hl := h.len
  have cell : ∀ k, w2.cell? ⟨D, 9 + k, none⟩ = (w.setCell ⟨D, 9 + ps.length, none⟩ (.int .u8 z)).cell? ⟨D, 9 + k, none⟩ := fun k => hb.cell (p := ⟨D, 9 + k, none⟩) hD
  have cellA : ∀ k, w2.cell? ⟨D, k, none⟩ = (w.setCell ⟨D, 9 + ps.length, none⟩ (.int .u8 z)).cell? ⟨D, k, none⟩ := fun k => hb.cell (p := ⟨D, k, none⟩) hD
  have hB := dec_put w D ps z hz h
  obtain ⟨b', off', e, _, hc⟩ := hB.2 (by simp)
  obtain ⟨rfl, rfl⟩ : D = b' ∧ 9 = off' := by simpa using e
  have c1 : ∀ k, k < ps.length + 1 → w2.cell? ⟨D, 9 + k, none⟩ = some (.int .u8 ((ps ++ [z])[k]?.getD 0 : Nat)) := fun k hk => by
    have := hc k (by simp; omega)
    rw [cell, this]
  refine ⟨Nat.lt_of_lt_of_le hD hbs, c1, fun k hk => ?_, fun k hk => ?_, ?_, ⟨⟨hb.os, hb.tape, hb.output, hbs, fun i hi hne => ?_⟩, fun k hk => ?_, fun k => ?_, fun cur t hc => ⟨_, (hb.block D hD).trans (heap_setCell_same w D (9 + ps.length) cur t (.int .u8 z) hc)⟩⟩⟩
  · rcases Nat.lt_or_ge k (ps.length + 1) with h' | h'
    · exact ⟨_, c1 k h'⟩
    · rw [cell, World.cell?_setCell_other _ _ _ _ (by simp; try omega)]
      exact h.room k hk
  · have e1 : w2.frozen? ⟨D, 9 + k, none⟩ = (w.setCell ⟨D, 9 + ps.length, none⟩ (.int .u8 z)).frozen? ⟨D, 9 + k, none⟩ := hb.frozen (p := ⟨D, 9 + k, none⟩) hD
    rw [e1, World.frozen?_setCell]
    exact h.free k hk
  · rw [show (⟨D, 13, none⟩ : Addr) = ⟨D, 9 + 4, none⟩ from rfl, cell, World.cell?_setCell_other _ _ _ _ (by simp; try omega)]
    exact h.left
  · rw [hb.block i hi]
    exact heap_setCell_other w ⟨D, 9 + ps.length, none⟩ i _ (fun e => hne (by rw [e]))
  · rw [cellA, World.cell?_setCell_other _ _ _ _ (by simp; try omega)]
  · have e1 : w2.frozen? ⟨D, k, none⟩ = (w.setCell ⟨D, 9 + ps.length, none⟩ (.int .u8 z)).frozen? ⟨D, k, none⟩ := hb.frozen (p := ⟨D, k, none⟩) hD
    rw [e1, World.frozen?_setCell]

set_option maxRecDepth 100000 in
/-- What waits is moved ahead. -/
theorem dec_copy (w w2 : World) (D : Nat) (zs : List Nat) (u m c : Nat) (hm : m + u = zs.length) (_ : zs.length ≤ 4) (hm0 : 0 < m) (hm3 : m ≤ 3) (hz : ∀ z ∈ zs, z < 256) (hD : D < w2.heap.size)
    (hc : ∀ k, k < zs.length → w2.cell? ⟨D, 9 + k, none⟩ = some (.int .u8 (zs[k]?.getD 0 : Nat))) (hr : ∀ k, k < 4 → ∃ v : Nat, w2.cell? ⟨D, 9 + k, none⟩ = some (.int .u8 v)) (hf : ∀ k, k < 5 → w2.frozen? ⟨D, 9 + k, none⟩ = false) (l : Nat) (hl : w2.cell? ⟨D, 13, none⟩ = some (.int .i64 l)) (hg : GD D w w2) :
    ∃ w3 : World, (Builtin.copy_ #[22, 22] 3 #[.slice (some ⟨D, 9, none⟩) 4 4, .slice (some ⟨D, 9 + u, none⟩) m c]).run Tryd.prog w2.drew = .ok (.int .i64 m) w3 ∧ w3.cell? ⟨D, 13, none⟩ = some (.int .i64 l) ∧ w3.frozen? ⟨D, 13, none⟩ = false ∧
      DecL (w3.setCell ⟨D, 13, none⟩ (.int .i64 m)) D (zs.drop u) ∧ GD D w (w3.setCell ⟨D, 13, none⟩ (.int .i64 m)) := by
  let cs : List Value := (zs.drop u).map fun z => Value.int .u8 (z : Nat)
  have hlen : cs.length = m := by simp only [cs, List.length_map, List.length_drop]; omega
  have hcs : ∀ j v, cs[j]? = some v → w2.drew.cell? ((⟨D, 9 + u, none⟩ : Addr).add j) = some v := fun j v hj => by
    have hj' : j < m := by rw [← hlen]; exact (List.getElem?_eq_some_iff.1 hj).1
    have ea : (⟨D, 9 + u, none⟩ : Addr).add j = ⟨D, 9 + u + j, none⟩ := by unfold Addr.add; split <;> simp_all
    rw [ea, Nat.add_assoc]
    refine (hc (u + j) (by omega)).trans ?_
    simp only [cs, List.getElem?_map, List.getElem?_drop] at hj
    rw [List.getElem?_eq_getElem (by omega)] at hj ⊢
    simpa using hj
  have hrun := run_copy_cells (P := Tryd.prog) w2.drew 22 22 3 5 D 9 4 4 ⟨D, 9 + u, none⟩ m c cs (by kernel_rfl) (by kernel_rfl) (by rw [hlen]; exact (Nat.min_eq_left (by omega)).symm) hcs (fun j hj => by
    obtain ⟨v, hv⟩ := hr j (by omega)
    show (w2.cell? _).isSome = true
    rw [hv]; rfl) (fun j hj => by exact hf j (by omega)) (fun v hv => by
    obtain ⟨z, _, rfl⟩ := List.mem_map.1 hv
    simp [Value.oneCell'])
  rw [hlen] at hrun
  have c4 : (w2.drew.setCells D 9 cs).cell? ⟨D, 13, none⟩ = some (.int .i64 l) := (World.cell?_setCells_out D cs 9 w2.drew ⟨D, 13, none⟩ (fun _ _ => .inr (by show 9 + cs.length ≤ 13; omega))).trans hl
  have cin : ∀ j, j < m → (w2.drew.setCells D 9 cs).cell? ⟨D, 9 + j, none⟩ = some (.int .u8 ((zs.drop u)[j]?.getD 0 : Nat)) := fun j hj => by
    have := World.cell?_setCells_in D cs 9 w2.drew (fun j hj => by
      obtain ⟨v, hv⟩ := hr j (by omega)
      show (w2.cell? _).isSome = true
      rw [hv]; rfl) j (by omega)
    rw [this]
    simp only [cs, List.getElem_map]
    rw [List.getElem?_eq_getElem (by simp; try omega)]
    rfl
  refine ⟨w2.drew.setCells D 9 cs, hrun, c4, (World.frozen?_setCells ..).trans (hf 4 (by omega)), ⟨?_, ?_, ?_, ?_, ?_, ?_, ?_⟩, ?_⟩
  · rw [World.size_setCell, size_setCells]; exact hD
  · simp; omega
  · exact fun p hp => hz p (List.mem_of_mem_drop hp)
  · rw [World.cell?_setCell_same _ _ _ c4]
    simp only [List.length_drop]
    congr 3
    omega
  · intro k hk
    simp only [List.length_drop] at hk
    rw [World.cell?_setCell_other _ _ _ _ (by simp; try omega)]
    exact cin k (by omega)
  · intro k hk
    rw [World.cell?_setCell_other _ _ _ _ (by simp; try omega)]
    rcases Nat.lt_or_ge k m with h | h
    · exact ⟨_, cin k h⟩
    · rw [World.cell?_setCells_out D cs 9 w2.drew ⟨D, 9 + k, none⟩ (fun _ _ => .inr (by show 9 + cs.length ≤ 9 + k; omega))]
      exact hr k hk
  · intro k hk
    rw [World.frozen?_setCell]
    exact (World.frozen?_setCells ..).trans (hf k hk)
  · exact GD.set13 _ (GD.cells cs (by omega) hg.drew)

set_option maxRecDepth 100000 in
/-- Nothing waits. -/
theorem dec_empty (w w2 : World) (D : Nat) (zs : List Nat) (u : Nat) (hu : u = zs.length) (hD : D < w2.heap.size)
    (hr : ∀ k, k < 4 → ∃ v : Nat, w2.cell? ⟨D, 9 + k, none⟩ = some (.int .u8 v)) (hf : ∀ k, k < 5 → w2.frozen? ⟨D, 9 + k, none⟩ = false) (l : Nat) (hl : w2.cell? ⟨D, 13, none⟩ = some (.int .i64 l)) (hg : GD D w w2) :
    (∀ a c, (Builtin.copy_ #[22, 22] 3 #[.slice (some ⟨D, 9, none⟩) 4 4, .slice a 0 c]).run Tryd.prog w2.drew = .ok (.int .i64 0) w2.drew) ∧
      DecL (w2.drew.setCell ⟨D, 13, none⟩ (.int .i64 0)) D (zs.drop u) ∧ GD D w (w2.drew.setCell ⟨D, 13, none⟩ (.int .i64 0)) := by
  have e : zs.drop u = [] := List.drop_of_length_le (by omega)
  rw [e]
  refine ⟨fun a c => run_copy_none w2.drew 22 22 3 5 _ a 4 4 0 c (by kernel_rfl) (by kernel_rfl) rfl, ⟨?_, by simp, by simp, ?_, fun k hk => by simp at hk, ?_, ?_⟩, ?_⟩
  · rw [World.size_setCell]; exact hD
  · exact World.cell?_setCell_same _ _ _ hl
  · intro k hk
    rw [World.cell?_setCell_other _ _ _ _ (by simp; try omega)]
    exact hr k hk
  · intro k hk
    rw [World.frozen?_setCell]
    exact hf k hk
  · exact GD.set13 _ hg.drew

theorem grown_refl (w : World) (o : Option Nat) : w.grownBy w o := ⟨rfl, rfl, rfl, Nat.le_refl _, fun _ _ _ => rfl⟩
theorem grown_trans {a b c : World} {o : Option Nat} (h : a.grownBy b o) (h' : b.grownBy c o) : a.grownBy c o :=
  ⟨h'.os.trans h.os, h'.tape.trans h.tape, h'.output.trans h.output, Nat.le_trans h.size h'.size, fun k hk hn => (h'.block k (Nat.lt_of_lt_of_le hk h.size) hn).trans (h.block k hk hn)⟩
theorem owns_past {w2 w' : World} {base D n : Nat} {v : Value} {xs : List Value} (h : w2.ownsRow base 21 1 v n xs) (hD : D < base) (hg : GD D w2 w') : w'.ownsRow base 21 1 v n xs :=
  h.kept hg.g (.inr fun e => absurd (h.lt D e).1 (by omega))

end Go.Proofs.YtmmkcfjncpcabaaDoor
