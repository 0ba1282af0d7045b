/- The walks of Set and Fill. -/
import Derived.Test.YtehfejgalemhaaaNu
namespace Go.Proofs.Ytehfejgalemhaaa
open Go.RowKit

set_option maxRecDepth 100000 in
set_option maxHeartbeats 4000000 in
theorem set_in {P P2 : Nat → Prop} (w : World) (D : Nat) (v v1 v2 : Value) (room : Nat) (gone : Int) (L : List (Int × Bool)) (xs : List Value) (r : Int × Bool) (h : RM P w D v room gone L xs) (hP : ∀ b, w.heap.size ≤ b → P b) (hr : RV P2 w v1 v2 r) (i : Nat) (hi : i < L.length) (hl : L.length ≤ 1000000) :
    Calls Try.prog 24 #[.pointer (some ⟨D, 0, none⟩), .int .i64 i, .agg #[v1, v2]] w fun e w' => e = .returned (.bool true) ∧ ∃ xs', RM P w' D v room gone (L.set i r) xs' ∧ KB (fun k => some k = v.ownBlock) w w' := by
  have HL : Hid (∀ W, Below w.heap.size w W → Calls Try.prog 31 #[.pointer (some ⟨D, 0, none⟩), .int .i64 i] W fun e w' => e = .returned (.bool true) ∧ w' = W) := Lib.hid fun W hW => has_in W D v room gone L xs (h.past hW) i hi
  have HC : Hid (∀ W, Below w.heap.size w W → Calls Try.prog 30 #[.agg #[v1, v2]] W fun e w' => ∃ g c, e = .returned (.agg #[.slice (some ⟨g, 0, none⟩) 1 c, v2]) ∧ Below W.heap.size W w' ∧ RV (fun b => W.heap.size ≤ b) w' (.slice (some ⟨g, 0, none⟩) 1 c) v2 r) := Lib.hid fun W hW => clone_any v1 v2 r W (hr.past hW)
  obtain ⟨b1, c1, rfl, rfl, _⟩ := hr.cells
  obtain ⟨n', hn'⟩ : ∃ n', L.length = n' + 1 := ⟨L.length - 1, by omega⟩
  obtain ⟨g, off, c, rfl, hc⟩ := OR.form (n := n') (by have := h.rows; rwa [hn'] at this)
  obtain ⟨⟨d0, d1, d2⟩, df⟩ := h.cells
  have hlt := h.lt
  have hi1 : (i : Int) < (n' : Int) + 1 := by omega
  have hi2 : (0 : Int) ≤ i := by omega
  have HA : Hid (Below w.heap.size w (w.alloc (.cells #[.slice (some ⟨b1, 0, none⟩) 1 c1, .bool r.2] 43))) := Lib.hid (belA (Below.refl _ _) _)
  have HZ : Hid (∀ (w5 : World) (g5 c5 : Nat), Below (w.alloc (.cells #[.slice (some ⟨b1, 0, none⟩) 1 c1, .bool r.2] 43)).drew.heap.size (w.alloc (.cells #[.slice (some ⟨b1, 0, none⟩) 1 c1, .bool r.2] 43)).drew w5 → RV (fun b => (w.alloc (.cells #[.slice (some ⟨b1, 0, none⟩) 1 c1, .bool r.2] 43)).drew.heap.size ≤ b) w5 (.slice (some ⟨g5, 0, none⟩) 1 c5) (.bool r.2) r →
      w5.cell? ⟨D, 0, none⟩ = some (.slice (some ⟨g, off, none⟩) (n' + 1) c) ∧ (∃ u, w5.cell? ⟨g, off + i * 2, none⟩ = some u) ∧ (∃ u, w5.cell? ⟨g, off + i * 2 + 1, none⟩ = some u) ∧ (∀ k, w5.frozen? ⟨g, k, none⟩ = false) ∧ Hid (∃ xs', RM P ((w5.setCell ⟨g, off + i * 2, none⟩ (.slice (some ⟨g5, 0, none⟩) 1 c5)).setCell ⟨g, off + i * 2 + 1, none⟩ (.bool r.2)) D (.slice (some ⟨g, off, none⟩) (n' + 1) c) room gone (L.set i r) xs' ∧ KB (fun k => some k = (Value.slice (some (⟨g, off, none⟩ : Addr)) (n' + 1) c).ownBlock) w ((w5.setCell ⟨g, off + i * 2, none⟩ (.slice (some ⟨g5, 0, none⟩) 1 c5)).setCell ⟨g, off + i * 2 + 1, none⟩ (.bool r.2)))) := Lib.hid fun w5 g5 c5 hb5 hr5 => by
    have hb := bel1 (Below.refl w.heap.size w) (belD hb5)
    have hs : (w.alloc (.cells #[.slice (some ⟨b1, 0, none⟩) 1 c1, .bool r.2] 43)).drew.heap.size = w.heap.size + 1 := by simp
    rw [hs] at hr5
    have hr5' : RV P w5 (.slice (some ⟨g5, 0, none⟩) 1 c5) (.bool r.2) r := hr5.mono fun b _ hb => hP b (by omega)
    have h' : RM P w D (.slice (some ⟨g, off, none⟩) (n' + 1) c) room gone L xs := h
    obtain ⟨q1, q2, q3, xs', q4, q5⟩ := h'.setAt hn'.symm i (by omega) hb hr5'
    exact ⟨(h.past hb).cells.1.1, q1, q2, q3, Lib.hid ⟨xs', q4, q5.wide _ fun k e => by rw [e]; rfl⟩⟩
  clear h hP hr hc
  generalize r.2 = q at *
  go_enter Try.func24, Try.ntmps24
  go_wp2_with (go_at_call 31; go_must (with_reducible refine (HL.out _ HA.out).mono ?_; rintro e4 w4 ⟨rfl, rfl⟩))
  go_region_law (first
    | (go_simp; go_at_call 30; (with_reducible refine (HC.out _ ?_).mono ?_); (first | exact HA.out | exact HA.out.drew); rintro e5 w5 ⟨g5, c5, rfl, hb5, hr5⟩; obtain ⟨d50, ⟨u1, k1⟩, ⟨u2, k2⟩, kf, HF⟩ := HZ.out _ _ _ hb5 hr5; clear hb5 hr5))
  all_goals
    go_wp2
    go_ret
    exact ⟨rfl, HF.out⟩
end Go.Proofs.Ytehfejgalemhaaa
