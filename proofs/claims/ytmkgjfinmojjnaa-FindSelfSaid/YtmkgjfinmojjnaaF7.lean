/- The walks of All, Loose, Count, Next, Ahead. -/
import Derived.Test.YtmkgjfinmojjnaaF6
namespace Go.Proofs.Ytmkgjfinmojjnaa
open Go.RowKit

theorem cf_itself : ∀ a W, (callFunc 20 #[a]).run Try.prog W = .ok (.enter 20 #[a]) W := fun a W => by
  kernel_rfl
theorem cf_loose : ∀ a W, (callFunc 21 #[a]).run Try.prog W = .ok (.enter 21 #[a]) W := fun a W => by
  kernel_rfl
theorem cf_count : ∀ (v a : Value) W, (callFunc 23 (#[a] ++ #[v])).run Try.prog W = .ok (.enter 23 (#[a] ++ #[v])) W := fun v a W => by
  kernel_rfl
theorem cf_next : ∀ (v u x a : Value) W, (callFunc 24 (#[a] ++ #[v, u, x])).run Try.prog W = .ok (.enter 24 (#[a] ++ #[v, u, x])) W := fun v u x a W => by
  kernel_rfl
theorem cf_ahead : ∀ (v u x a : Value) W, (callFunc 25 (#[a] ++ #[v, u, x])).run Try.prog W = .ok (.enter 25 (#[a] ++ #[v, u, x])) W := fun v u x a W => by
  kernel_rfl
set_option maxRecDepth 100000 in
theorem all_any (T N : List UInt8) (hT : T.length ≤ 100000000) (hN : N.length ≤ 100000000) (w : World) :
    Calls Try.prog 11 #[.string (bsB T), .string (bsB N)] w (IntsPost (pls idL T N) w) := by
  have HA := Lib.hid (allF_any idL 20 cf_itself itself_any T N hT hN w)
  unfold IntsPost at *
  generalize pls idL T N = pl at *
  generalize pl.length = n at *
  generalize intV pl = os at *
  generalize bsB T = sT at *
  generalize bsB N = sN at *
  go_enter Try.func11, Try.ntmps11
  go_wp2_with (go_at_call 19; (with_reducible refine HA.out.mono ?_); rintro e w3 ⟨A, c, rfl, h3⟩; have H3 := Lib.hid h3; clear h3)
  go_ret
  exact ⟨A, c, rfl, H3.out⟩
set_option maxRecDepth 100000 in
theorem looseF_any (T N : List UInt8) (hT : T.length ≤ 100000000) (hN : N.length ≤ 100000000) (w : World) :
    Calls Try.prog 12 #[.string (bsB T), .string (bsB N)] w (IntsPost (pls lowL T N) w) := by
  have HA := Lib.hid (allF_any lowL 21 cf_loose loose_any T N hT hN w)
  unfold IntsPost at *
  generalize pls lowL T N = pl at *
  generalize pl.length = n at *
  generalize intV pl = os at *
  generalize bsB T = sT at *
  generalize bsB N = sN at *
  go_enter Try.func12, Try.ntmps12
  go_wp2_with (go_at_call 19; (with_reducible refine HA.out.mono ?_); rintro e w3 ⟨A, c, rfl, h3⟩; have H3 := Lib.hid h3; clear h3)
  go_ret
  exact ⟨A, c, rfl, H3.out⟩
/-- Own boxes of one cell, from b on. -/
structure B1 (w0 : World) (b : Nat) (v : Value) (t : TypeId) (W : World) : Prop where
  below : Below w0.heap.size w0 W
  le : w0.heap.size ≤ b
  b0 : W.heap[b]? = some (.cells #[v] t (0, 0))
theorem B1.lt {w0 W : World} {b : Nat} {v : Value} {t : TypeId} (h : B1 w0 b v t W) : b < W.heap.size := (Array.getElem?_eq_some_iff.1 h.b0).1
theorem B1.past {w0 W W' : World} {b : Nat} {v : Value} {t : TypeId} (h : B1 w0 b v t W) (hb : Below W.heap.size W W') : B1 w0 b v t W' := ⟨bel0 h.below hb, h.le, (hb.block b h.lt).trans h.b0⟩
theorem B1.set {w0 W : World} {b : Nat} {v : Value} {t : TypeId} (h : B1 w0 b v t W) (u : Value) : B1 w0 b u t (W.setCell ⟨b, 0, none⟩ u) :=
  ⟨h.below.setCell (p := ⟨b, 0, none⟩) h.le _, h.le, by rw [row_set h.b0]; rfl⟩
theorem B1.other {w0 W : World} {b : Nat} {v : Value} {t : TypeId} (h : B1 w0 b v t W) (c : Nat) (hc : c ≠ b) (hw : w0.heap.size ≤ c) (u : Value) : B1 w0 b v t (W.setCell ⟨c, 0, none⟩ u) :=
  ⟨h.below.setCell (p := ⟨c, 0, none⟩) hw _, h.le, (Below.heap_setCell _ _ _ b (fun e => hc e.symm)).trans h.b0⟩
theorem B1.cell {w0 W : World} {b : Nat} {v : Value} {t : TypeId} (h : B1 w0 b v t W) : W.cell? ⟨b, 0, none⟩ = some v ∧ W.frozen? ⟨b, 0, none⟩ = false := ⟨row_cell h.b0 0 _ rfl, by simp [World.frozen?, h.b0]⟩
theorem B1.first (w w1 : World) (h : Below w.heap.size w w1) (v : Value) (t : TypeId) : B1 w w1.heap.size v t (w1.alloc (.cells #[v] t)) := ⟨belA h _, h.size, heap_alloc_new w1 _⟩
set_option maxRecDepth 100000 in
theorem countC_any (w0 : World) (b p n : Nat) (hn : n ≤ 1000000000) (W : World) (h : B1 w0 b (.int .i64 n) 3 W) :
    Calls Try.prog 23 #[.int .i64 p, .pointer (some ⟨b, 0, none⟩)] W fun e w' => e = .returned (.bool true) ∧ W.setCell ⟨b, 0, none⟩ (.int .i64 ((n : Int) + 1)) = w' := by
  obtain ⟨c0, f0⟩ := h.cell
  have hw1 : IntKind.i64.wrap ((n : Int) + 1) = (n : Int) + 1 := IntWalk.i64_in _ (by omega)
  clear h
  go_enter Try.func23, Try.ntmps23
  go_wp2
  go_ret
  exact ⟨rfl, rfl⟩
set_option maxRecDepth 100000 in
set_option maxHeartbeats 4000000 in
theorem count_any (T N : List UInt8) (hT : T.length ≤ 100000000) (hN : N.length ≤ 100000000) (w : World) :
    Calls Try.prog 13 #[.string (bsB T), .string (bsB N)] w fun e w' => e = .returned (.int .i64 (pls idL T N).length) ∧ Below w.heap.size w w' := by
  have hlen := plU_len idL T N
  have HA : Hid (Calls Try.prog 22 #[.string (bsB T), .string (bsB N), .func (.func 20) #[] #[], .func (.func 23) #[] #[.pointer (some ⟨w.heap.size, 0, none⟩)]] (w.alloc (.cells #[.int .i64 0] 3)) fun e w' => e = .returned (.tuple #[]) ∧ B1 w w.heap.size (.int .i64 (pls idL T N).length) 3 w') := Lib.hid <| by
    refine (eachPlace_any idL 20 23 #[.pointer (some ⟨w.heap.size, 0, none⟩)] cf_itself (cf_count _) itself_any T N (by omega) (by omega) _ (fun ds W => B1 w w.heap.size (.int .i64 (ds.length : Nat)) 3 W) (fun _ k => k = w.heap.size) (fun _ _ => False) ⟨fun _ _ k h ho => by rw [ho]; exact h.lt, fun _ _ _ h hb => ⟨h.past hb, fun _ h => h⟩⟩ (B1.first w w (Below.refl _ _) _ _) ?_).mono fun e w' h => ⟨h.1, h.2.elim id fun ⟨_, _, _, h⟩ => h.elim⟩
    intro ds p W ⟨t, ht⟩ hK
    refine (countC_any w w.heap.size p ds.length (by rw [ht] at hlen; simp at hlen; omega) W hK).mono fun e w' h => ⟨true, h.1, fun _ => ?_, fun h => (by cases h), ?_⟩
    · rw [← h.2]
      have := hK.set (.int .i64 ((ds.length : Int) + 1))
      simpa using this
    · rw [← h.2]
      exact ⟨by rw [World.size_setCell]; exact Nat.le_refl _, fun k _ hk => Below.heap_setCell _ _ _ k hk, fun k hk => .inl hk⟩
  clear hlen
  generalize (pls idL T N).length = n at *
  generalize bsB T = sT at *
  generalize bsB N = sN at *
  go_enter Try.func13, Try.ntmps13
  go_wp2_with (go_at_call 22; (with_reducible refine HA.out.mono ?_); rintro e w3 ⟨rfl, h3⟩; obtain ⟨c0, _⟩ := h3.cell; have H3 := Lib.hid h3.below; clear h3)
  go_ret
  exact ⟨rfl, H3.out⟩

end Go.Proofs.Ytmkgjfinmojjnaa
