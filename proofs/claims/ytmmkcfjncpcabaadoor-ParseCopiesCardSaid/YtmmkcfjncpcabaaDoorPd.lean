/- The walks of Parse's inner function, and of pieces with it. -/
import Derived.Test.YtmmkcfjncpcabaaDoorPc
import Derived.Test.YtmmkcfjncpcabaaDoorKh
import Derived.Test.YtmmkcfjncpcabaaDoorPs
import Derived.Deep.RegionLaw
namespace Go.Proofs.YtmmkcfjncpcabaaDoor
open Go.RowKit

theorem step_append_own {P : Program} {ops : Array Oper} {o : Oper} {a : Act} {w : World} {K : Act → World → Prop} {Q : Exit → Act → World → Prop} {E : Prop}
    (hg : o.guard = none) (s x : Operand) (t : TypeId) (hop : o.op = Op.call { callee := Callee.builtin Builtin.append, args := #[s, x], argTypes := #[t, t] })
    (base : Nat) (e : TypeId) (i : TypeInfo) (z : Value) (size bytes : Nat) (h1 : P.underlying t = some (.slice e)) (h2 : P.info? e = some i) (h3 : i.zero = some z) (h4 : i.size = size) (h5 : i.bytes = bytes) (h6 : z.cells.size = size) (h7 : 0 < size)
    (v : Value) (k : Nat) (xs : List Value) (hs : a.eval s = v) (hown : w.ownsRow base e size v k xs) (ad : Addr) (m c : Nat) (news : List Value) (hx : a.eval x = .slice (some ad) m c) (hn : news.length = m * size)
    (hc : ∀ j u, news[j]? = some u → w.cell? (ad.add j) = some u) (h1c : ∀ u ∈ news, u.oneCell' = true) (b1 : k + m ≤ maxLen) (b2 : (k + m) * bytes ≤ 140737488355328) (b3 : base ≤ w.heap.size)
    (hK : ∀ v' w', w'.ownsRow base e size v' (k + m) (xs ++ news) → w.grownBy w' v.ownBlock → K (a.put o.dst v') w') :
    if Region.wanted o (yielded ops a.tmps) = true then Oper.wp P o a w K Q else E := by
  have hw : Region.wanted o (yielded ops a.tmps) = true := by simp [Region.wanted, hg]
  rw [if_pos hw]
  exact wp_append_own _ s x t hop base e i z size bytes h1 h2 h3 h4 h5 h6 h7 v k xs hs hown ad m c news hx hn hc h1c b1 b2 b3 (fun v' w' h h' _ => hK v' w' h h')

theorem grown_drew {w w' : World} {r : Option Nat} (h : w.drew.grownBy w' r) : w.grownBy w' r := ⟨h.os, h.tape, h.output, h.size, h.block⟩
/-- The variable of a group lies in block gb; its row is of the call's own. -/
structure GI (w0 W : World) (gb : Nat) (xs : List Int) (vg : Value) : Prop where
  below : Below gb w0 W
  cell : W.heap[gb]? = some (.cells #[vg] 48 (0, 0))
  own : W.ownsRow (gb + 1) 3 1 vg xs.length (xs.map (Value.int .i64))
theorem GI.past {w0 W W' : World} {gb : Nat} {xs : List Int} {vg : Value} (h : GI w0 W gb xs vg) (hb : Below W.heap.size W W') : GI w0 W' gb xs vg :=
  ⟨h.below.trans (hb.mono (Nat.le_of_lt (lt_of_block h.cell))), (hb.block gb (lt_of_block h.cell)).trans h.cell, own_past h.own hb⟩
theorem GI.grow {w0 W w5 : World} {gb : Nat} {xs : List Int} {vg v2 : Value} {z : Int} (h : GI w0 W gb xs vg) (hg : W.grownBy w5 vg.ownBlock) (h2 : w5.ownsRow (gb + 1) 3 1 v2 (xs.length + 1) (xs.map (Value.int .i64) ++ [.int .i64 z])) :
    w5.cell? ⟨gb, 0, none⟩ = some vg ∧ w5.frozen? ⟨gb, 0, none⟩ = false ∧ GI w0 (w5.setCell ⟨gb, 0, none⟩ v2) gb (xs ++ [z]) v2 := by
  have hlt := lt_of_block h.cell
  have hne : some gb ≠ vg.ownBlock := fun e => by have := (h.own.lt gb e.symm).1; omega
  have hc5 : w5.heap[gb]? = some (.cells #[vg] 48 (0, 0)) := (hg.block gb hlt hne).trans h.cell
  have hb5 : Below gb w0 w5 := h.below.grown hg (Nat.le_of_lt hlt) (fun k e => by have := (h.own.lt k e).1; omega)
  refine ⟨cell_of_one hc5, free_of_one hc5, hb5.setCell (p := ⟨gb, 0, none⟩) (Nat.le_refl _) _, one_setCell hc5, ?_⟩
  have h3 : (w5.setCell ⟨gb, 0, none⟩ v2).ownsRow (gb + 1) 3 1 v2 (xs.length + 1) (xs.map (Value.int .i64) ++ [.int .i64 z]) := h2.kept (⟨rfl, rfl, rfl, by simp, fun k _ hne => heap_setCell_other w5 ⟨gb, 0, none⟩ k v2 (fun e => hne (by rw [e]))⟩) (.inr (fun e => by have := (h2.lt gb e).1; omega))
  rw [List.length_append, List.map_append]
  exact h3

set_option maxRecDepth 100000 in
set_option maxHeartbeats 2000000 in
theorem clo11_any (s : ByteArray) (gb : Nat) (xs : List Int) (vg : Value) (w0 w : World) (hI : GI w0 w gb xs vg) (hx : xs.length ≤ 1000000) (hs : s.size ≤ 1000000) (hd : ∀ x ∈ s.data.toList, 48 ≤ x.toNat ∧ x.toNat ≤ 57) :
    Calls Tryd.prog 68 #[.string s, .pointer (some ⟨gb, 0, none⟩)] w fun e w' => ∃ v', e = .returned (.tuple #[]) ∧ GI w0 w' gb (xs ++ [numZ s.data.toList]) v' := by
  obtain ⟨i0, hi0, hz0, hz1, hz2⟩ := info_parts Tryd.infoInt
  have HN := Lib.hid (fun W => number_any s W hs hd)
  have HI := Lib.hid hI
  have hc := cell_of_one hI.cell
  have hlt := lt_of_block hI.cell
  obtain ⟨Av, cv, hv, _⟩ := own_form hI.own
  subst hv
  generalize numZ s.data.toList = z at *
  have HGR : Hid (∀ w5 v2, (w.alloc (.cells #[.int .i64 z] 3)).grownBy w5 (Value.slice Av xs.length cv).ownBlock → w5.ownsRow (gb + 1) 3 1 v2 (xs.length + 1) (xs.map (Value.int .i64) ++ [.int .i64 z]) → w5.cell? ⟨gb, 0, none⟩ = some (.slice Av xs.length cv) ∧ w5.frozen? ⟨gb, 0, none⟩ = false ∧ GI w0 (w5.setCell ⟨gb, 0, none⟩ v2) gb (xs ++ [z]) v2) := Lib.hid fun w5 v2 hg h2 => (hI.past ((Below.refl w.heap.size w).alloc (Nat.le_refl _) _)).grow hg h2
  clear hI hd hs
  go_enter Tryd.func68, Tryd.ntmps68
  go_region_law (first
    | ((refine step_append_own rfl _ _ 48 rfl (gb + 1) 3 i0 (.int .i64 0) 1 8 Tryd.underlying48 hi0 hz0 hz1 hz2 rfl (by decide) (.slice Av xs.length cv) xs.length (xs.map (Value.int .i64)) rfl (HI.out.own.alloc _) ⟨w.heap.size, 0, none⟩ 1 1 [.int .i64 z] rfl rfl (news1 w.drew _ _) (by simp [Value.oneCell']) (by unfold maxLen; omega) (by omega) (by simp; omega) ?_); intro v2 w5 hown2 hgrow2; obtain ⟨A5, c5, rfl, _⟩ := own_form hown2; obtain ⟨hc5, hf5, hp5⟩ := HGR.out w5 _ (grown_drew hgrow2) hown2; have HP5 := Lib.hid hp5; clear hown2 hgrow2 hp5)
    | (go_simp; go_at_call 69; (with_reducible refine (HN.out _).mono ?_); rintro e w' ⟨rfl, rfl⟩))
  all_goals
    go_end0
    exact ⟨_, rfl, HP5.out⟩

end Go.Proofs.YtmmkcfjncpcabaaDoor
