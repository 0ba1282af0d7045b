/- What 'does' makes of both rings: At, where there is no such row. -/
import Derived.Test.YtehfejgalemhaaaOh
namespace Go.Proofs.Ytehfejgalemhaaa
open Go.RowKit

theorem belN (w : World) (n : Nat) : Below w.heap.size w (w.drewN n) := ⟨rfl, rfl, rfl, Nat.le_refl _, fun _ _ => rfl⟩

set_option maxRecDepth 100000 in
set_option maxHeartbeats 8000000 in
theorem does_at_out (w0 w : World) (D M room : Nat) (g : Int) (L : List (Int × Bool)) (B1 B2 : Nat) (h : T2 w0 w D M room g L B1 g L B2) (n : Int) (hn : n < 0 ∨ (L.length : Int) ≤ n) :
    Calls Try.prog 10 #[.pointer (some ⟨D, 0, none⟩), .pointer (some ⟨M, 0, none⟩), .agg #[.int .i64 3, .int .i64 n]] w fun e w' => DoesPost w0 D M room g L e w' := by
  have HT := Lib.hid h
  obtain ⟨A, c, xs, A', c', xs', h1, h2, _⟩ := h
  have HAT := Lib.hid (fun o => at_out (w.alloc o) D _ room g L xs (h1.past (belA (Below.refl _ _) o)) n hn)
  have HF : Hid (∀ w2, Below w.heap.size w w2 → w2.cell? ⟨M, 1, none⟩ = some (.slice A' L.length c')) := Lib.hid fun w2 hb => (h2.past hb).cells.1.2.1
  clear h1 h2
  by_cases h0 : n < 0
  · clear hn
    have hd0 : decide (0 ≤ n) = false := decide_eq_false (by omega)
    clear h0
    go_enter Try.func10, Try.ntmps10
    go_wp2_with (go_at_call 19; go_must (with_reducible refine (HAT.out _).mono ?_; rintro e5 w5 ⟨rfl, hb5⟩; have HB5 := Lib.hid hb5; clear hb5 HAT))
    have hb2 := belA (bel1 (Below.refl _ _) HB5.out) (.cells #[.slice none 0 0, .bool false] 43)
    have ho := (HB5.out.block w.heap.size (by simp)).trans (heap_alloc_new w _)
    have ho2 := (heap_alloc_old w5 (.cells #[.slice none 0 0, .bool false] 43) (Array.getElem?_eq_some_iff.1 ho).1).trans ho
    have h5n := heap_alloc_new w5 (.cells #[.slice none 0 0, .bool false] 43)
    have m1 := HF.out _ hb2
    have HT2 := Lib.hid (HT.out.past hb2)
    clear HB5 HF HT hb2 ho
    generalize w5.alloc (.cells #[.slice none 0 0, .bool false] 43) = w2 at *
    generalize w5.heap.size = B1' at *
    have o1 := cell_of_row _ _ 1 _ _ _ ho2
    have k0 := cell_of_row _ _ 0 _ _ _ h5n
    have k1 := cell_of_row _ _ 1 _ _ _ h5n
    generalize w.heap.size = N0 at *
    clear ho2 h5n
    go_quiet (fail)
    go_wp2
    refine wp_region_quiet_lit (by kernel_rfl) (by kernel_rfl) ?_
    repeat (any_goals (first | go_big_quiet_step (fail) | quiet_step (fail)))
    refine wpQuiet_nil ?_
    intro _ hw'
    obtain ⟨nq2, hw''⟩ := hw'
    subst hw''
    go_wp2
    go_ret
    exact ⟨rfl, _, _, (HT2.out.past (belN _ _)).past (belN _ _)⟩
  · have hi1 : (0 : Int) ≤ n := by omega
    have hi2 : decide (n < (L.length : Int)) = false := decide_eq_false (by omega)
    clear hn
    go_enter Try.func10, Try.ntmps10
    go_wp2_with (go_at_call 19; go_must (with_reducible refine (HAT.out _).mono ?_; rintro e5 w5 ⟨rfl, hb5⟩; have HB5 := Lib.hid hb5; clear hb5 HAT))
    have hb2 := belA (bel1 (Below.refl _ _) HB5.out) (.cells #[.slice none 0 0, .bool false] 43)
    have ho := (HB5.out.block w.heap.size (by simp)).trans (heap_alloc_new w _)
    have ho2 := (heap_alloc_old w5 (.cells #[.slice none 0 0, .bool false] 43) (Array.getElem?_eq_some_iff.1 ho).1).trans ho
    have h5n := heap_alloc_new w5 (.cells #[.slice none 0 0, .bool false] 43)
    have m1 := HF.out _ hb2
    have HT2 := Lib.hid (HT.out.past hb2)
    clear HB5 HF HT hb2 ho
    generalize w5.alloc (.cells #[.slice none 0 0, .bool false] 43) = w2 at *
    generalize w5.heap.size = B1' at *
    have o1 := cell_of_row _ _ 1 _ _ _ ho2
    have k0 := cell_of_row _ _ 0 _ _ _ h5n
    have k1 := cell_of_row _ _ 1 _ _ _ h5n
    generalize w.heap.size = N0 at *
    clear ho2 h5n
    go_quiet (fail)
    go_wp2
    refine wp_region_quiet_lit (by kernel_rfl) (by kernel_rfl) ?_
    repeat (any_goals (first | go_big_quiet_step (fail) | quiet_step (fail)))
    refine wpQuiet_nil ?_
    intro _ hw'
    obtain ⟨nq2, hw''⟩ := hw'
    subst hw''
    go_wp2
    go_ret
    exact ⟨rfl, _, _, (HT2.out.past (belN _ _)).past (belN _ _)⟩
end Go.Proofs.Ytehfejgalemhaaa
