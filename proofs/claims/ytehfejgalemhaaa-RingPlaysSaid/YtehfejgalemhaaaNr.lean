/- A ring of one row whose cells lie between two places; the walk of All. -/
import Derived.Test.YtehfejgalemhaaaNq
namespace Go.Proofs.Ytehfejgalemhaaa
open Go.RowKit

set_option maxRecDepth 100000 in
set_option maxHeartbeats 2000000 in
theorem all_any {P : Nat → Prop} (w : World) (D : Nat) (v : Value) (room : Nat) (gone : Int) (L : List (Int × Bool)) (xs : List Value) (h : RM P w D v room gone L xs) (hl : L.length ≤ 1000000) :
    Calls Try.prog 14 #[.pointer (some ⟨D, 0, none⟩)] w fun e w' => ∃ xs', e = .returned (.slice (some ⟨w.heap.size, 0, none⟩) L.length L.length) ∧ Below w.heap.size w w' ∧ OR w' (.slice (some ⟨w.heap.size, 0, none⟩) L.length L.length) L.length xs' ∧ RS (fun b => w.heap.size ≤ b) w' xs' L := by
  obtain ⟨⟨d0, d1, d2⟩, df⟩ := h.cells
  obtain ⟨A, c, rfl⟩ := h.rows.shape
  have HC := Lib.hid (cloneAll_any A L.length c xs L rfl hl w h.rows h.each)
  clear h
  go_enter Try.func14, Try.ntmps14
  go_wp2_with (go_at_call 29; go_must (with_reducible refine HC.out.mono ?_; rintro e5 w5 ⟨xs5, rfl, hb5, ho5, hs5⟩; have HZ := Lib.hid (And.intro hb5 (And.intro ho5 hs5)); clear hb5 ho5 hs5))
  go_ret
  exact ⟨_, rfl, HZ.out⟩

def RO (w0 w : World) (D room : Nat) (r : Int × Bool) (lo hi : Nat) : Prop :=
  ∃ A c xs, RM (fun b => lo ≤ b ∧ b < hi) w D (.slice A 1 c) room 0 [r] xs ∧ Below w0.heap.size w0 w ∧ w0.heap.size ≤ D ∧ ∀ g, (Value.slice A 1 c).ownBlock = some g → w0.heap.size ≤ g
theorem RO.past {w0 w w' : World} {D room lo hi : Nat} {r : Int × Bool} (h : RO w0 w D room r lo hi) (hb : Below w.heap.size w w') : RO w0 w' D room r lo hi := by
  obtain ⟨A, c, xs, h1, h2, h3, h4⟩ := h
  exact ⟨A, c, xs, h1.past hb, bel0 h2 hb, h3, h4⟩
theorem RO.below {w0 w : World} {D room lo hi : Nat} {r : Int × Bool} (h : RO w0 w D room r lo hi) : Below w0.heap.size w0 w := by
  obtain ⟨A, c, xs, h1, h2, h3, h4⟩ := h
  exact h2
/-- A cell that none of the rings' rows has is written. -/
theorem RO.store {w0 w : World} {D room lo hi : Nat} {r : Int × Bool} (h : RO w0 w D room r lo hi) {P : Nat → Prop} {v2 : Value} {q : Int × Bool} {b c : Nat} (hv : RV P w (.slice (some ⟨b, 0, none⟩) 1 c) v2 q) (hb : w0.heap.size ≤ b) (hn : b < lo ∨ hi ≤ b) (k : Nat) (v : Value) : RO w0 (w.setCell ⟨b, k, none⟩ v) D room r lo hi := by
  obtain ⟨A, c', xs, h1, h2, h3, h4⟩ := h
  obtain ⟨b', c2, cur, hve, _, hh, _⟩ := hv
  have hbb : b = b' := by simpa [Value.ownBlock] using congrArg Value.ownBlock hve
  subst hbb
  clear hve
  have hk : KB (fun i => i = b) w (w.setCell ⟨b, k, none⟩ v) := KB.set k v rfl
  refine ⟨A, c', xs, h1.kept hk (fun e => ?_) (fun g eg e2 => ?_) (fun i cur' _ hS hP _ => by subst hS; omega), h2.setCell (p := ⟨b, k, none⟩) hb v, h3, h4⟩
  · subst e
    have := h1.d
    rw [hh] at this
    injection this with this
    injection this with _ e _
    exact absurd e (by decide)
  · subst e2
    obtain ⟨c3, h5⟩ := (h1.rows.lt g eg).2
    rw [hh] at h5
    injection h5 with h5
    injection h5 with _ e _
    exact absurd e (by decide)
theorem push_o {P2 : Nat → Prop} (w0 w : World) (D room : Nat) (r : Int × Bool) (v1 v2 : Value) (h : ∀ P, RM P w D (.slice none 0 0) room 0 [] []) (hw : Below w0.heap.size w0 w) (hD : w0.heap.size ≤ D) (hr : RV P2 w v1 v2 r) (hroom : room ≤ 1000000) (h1 : 1 ≤ room) :
    Calls Try.prog 16 #[.pointer (some ⟨D, 0, none⟩), .agg #[v1, v2]] w fun e w' => e = .returned (.tuple #[.agg #[.slice none 0 0, .bool false], .bool false]) ∧ RO w0 w' D room r w.heap.size w'.heap.size ∧ KR w w' ∧ KB (fun i => i = D) w w' := by
  refine (push_any w D _ v1 v2 room 0 [] [] r (h fun b => w.heap.size ≤ b) (fun b hb => hb) hr (by simp) hroom).mono fun e w' hp => ?_
  obtain ⟨A', c', gone', L', xs', o1, o2, ok, rfl, q1, q2, q3, q4⟩ := hp
  rcases q4 with ⟨f1, rfl, rfl, rfl, rfl, rfl⟩ | ⟨f1, _⟩
  · refine ⟨rfl, ⟨A', c', xs', ⟨q1.d, q1.rows, q1.each.map fun _ _ _ hr => hr.mono fun b hb hb' => ⟨hb', hb⟩⟩, q2.to_below hw (fun i e => ?_), hD, fun g e => ?_⟩, ⟨q2.size, fun P u v o ho => ho.keptR q2 ((h P).nc P)⟩, q2.wide _ fun i e => ?_⟩
    · rcases e with e | e
      · omega
      · simp [Value.ownBlock] at e
    · rcases q3 with q | ⟨g', q, q'⟩
      · have h2 := q.symm.trans e
        simp [Value.ownBlock] at h2
      · have h2 := q.symm.trans e
        injection h2 with h2
        have := hw.size
        omega
    · rcases e with e | e
      · exact e
      · simp [Value.ownBlock] at e
  · simp at f1; omega
theorem at_o (w0 w : World) (D room lo hi : Nat) (r : Int × Bool) (h : RO w0 w D room r lo hi) :
    Calls Try.prog 19 #[.pointer (some ⟨D, 0, none⟩), .int .i64 0] w fun e w' => ∃ g c, e = .returned (.tuple #[.agg #[.slice (some ⟨g, 0, none⟩) 1 c, .bool r.2], .bool true]) ∧ Below w.heap.size w w' ∧ RV (fun b => w.heap.size ≤ b) w' (.slice (some ⟨g, 0, none⟩) 1 c) (.bool r.2) r := by
  obtain ⟨A, c, xs, h1, _⟩ := h
  exact at_any w D _ room 0 [r] xs h1 0 (by simp) (by simp)
theorem all_o (w0 w : World) (D room lo hi : Nat) (r : Int × Bool) (h : RO w0 w D room r lo hi) :
    Calls Try.prog 14 #[.pointer (some ⟨D, 0, none⟩)] w fun e w' => ∃ G g c, e = .returned (.slice (some ⟨G, 0, none⟩) 1 1) ∧ Below w.heap.size w w' ∧ (w'.cell? ⟨G, 0, none⟩ = some (.slice (some ⟨g, 0, none⟩) 1 c) ∧ w'.cell? ⟨G, 1, none⟩ = some (.bool r.2)) ∧ G < w'.heap.size ∧ RV (fun b => w.heap.size ≤ b) w' (.slice (some ⟨g, 0, none⟩) 1 c) (.bool r.2) r := by
  obtain ⟨A, c, xs, h1, _⟩ := h
  refine (all_any w D _ room 0 [r] xs h1 (by simp)).mono fun e w' hp => ?_
  obtain ⟨xs', rfl, q1, q2, q3⟩ := hp
  obtain ⟨u, v, hx0, hx1, hr⟩ := q3.at 0 (by simp)
  obtain ⟨b0, c0, rfl, rfl, _⟩ := hr.cells
  have e0 := (OR.cell q2 hx0).1
  have e1 := (OR.cell q2 hx1).1
  exact ⟨_, b0, c0, rfl, q1, ⟨e0, e1⟩, (q2.lt _ rfl).1, hr⟩
theorem pop_o (w0 w : World) (D room lo hi : Nat) (r : Int × Bool) (h : RO w0 w D room r lo hi) :
    Calls Try.prog 21 #[.pointer (some ⟨D, 0, none⟩)] w fun e w' => ∃ g c, e = .returned (.tuple #[.agg #[.slice (some ⟨g, 0, none⟩) 1 c, .bool r.2], .bool true]) ∧ Below w0.heap.size w0 w' ∧ RV (fun _ => True) w' (.slice (some ⟨g, 0, none⟩) 1 c) (.bool r.2) r := by
  obtain ⟨A, c, xs, h1, h2, h3, h4⟩ := h
  refine (pop_some w D _ room 0 [] r xs h1 (by simp)).mono fun e w' hp => ?_
  obtain ⟨A', c', xs', o1, o2, rfl, q1, q2, q3, q4⟩ := hp
  obtain ⟨b0, c0, rfl, rfl, _⟩ := q2.cells
  exact ⟨b0, c0, rfl, q3.to_below h2 (fun i e => by
    rcases e with e | e
    · omega
    · exact h4 i e.symm), q2.mono fun _ _ _ => trivial⟩
end Go.Proofs.Ytehfejgalemhaaa
