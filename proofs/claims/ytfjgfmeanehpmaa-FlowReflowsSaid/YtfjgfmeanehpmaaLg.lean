/- The walk of flow.moved where no place is asked of. -/
import Derived.Test.YtfjgfmeanehpmaaLd
namespace Go.Proofs.Ytfjgfmeanehpmaa
open Go.RowKit

theorem infoPos : (Try.prog.info? 39).map (fun i => (i.zero, i.size, i.bytes)) = some (some (.agg #[.int .i64 0, .int .i64 0]), 2, 16) := by kernel_rfl
theorem mk_pos (n : Nat) (hn : n ≤ 1000000000) (W : World) : (Instr.makeSlice 43 (.int .i64 n) (.int .i64 n)).run Try.prog W = .ok (.slice (some ⟨W.heap.size, 0, none⟩) n n) (W.alloc (.cells (madeCells #[.int .i64 0, .int .i64 0] (n * 2)) 39)) := by
  obtain ⟨i0, hi, hz0, hz1, hz2⟩ := info_parts infoPos
  have h := run_make (P := Try.prog) W 43 39 i0 _ Try.underlying43 hi hz0 .i64 .i64 n n (by omega) (Int.le_refl _) (by rw [hz2]; omega) (by omega)
  simp only [hz1, Int.toNat_natCast, Value.cells] at h
  exact h
set_option maxRecDepth 100000 in
set_option maxHeartbeats 8000000 in
theorem moved_none (A A' : Option Addr) (L M : List Rw) (n c n' c' : Nat) (hn : n = L.length) (hn' : n' = M.length) (hl : n ≤ 10000000) (hl' : n' ≤ 10000000) (hc : n ≤ c) (hc' : n' ≤ c') (hr : ∀ i, i < n → (Ar L i).c.length ≤ 1000000000) (hr' : ∀ i, i < n' → (Ar M i).c.length ≤ 1000000000) (hf : (flat L).length ≤ 1000000000) (hf' : (flat M).length ≤ 1000000000) (w : World) (h : RR w A L) (h' : RR w A' M) :
    Calls Try.prog 43 #[.slice A n c, .slice A' n' c', .slice none 0 0] w fun e w' => ∃ v, e = .returned v ∧ Below w.heap.size w w' := by
  have H1 : Hid (Calls Try.prog 52 #[.slice A n c] w fun e w' => ∃ A2 n2 c2, e = .returned (.slice A2 n2 c2) ∧ Below w.heap.size w w') := Lib.hid <| (linesOf_any A L n c hn hl hc hr hf w h).mono fun e w' ⟨A2, c2, he, _, hb⟩ => ⟨A2, _, c2, he, hb⟩
  have H2 : Hid (∀ W, Below w.heap.size w W → Calls Try.prog 52 #[.slice A' n' c'] W fun e w' => ∃ A2 n2 c2, e = .returned (.slice A2 n2 c2) ∧ Below w.heap.size w w') := Lib.hid fun W hW => (linesOf_any A' M n' c' hn' hl' hc' hr' hf' W (h'.past hW)).mono fun e w' ⟨A2, c2, he, _, hb⟩ => ⟨A2, _, c2, he, bel0 hW hb⟩
  have hmk : ∀ W, (Instr.makeSlice 43 (.int .i64 0) (.int .i64 0)).run Try.prog W = .ok (.slice (some ⟨W.heap.size, 0, none⟩) 0 0) (W.alloc (.cells (madeCells #[.int .i64 0, .int .i64 0] 0) 39)) := fun W => mk_pos 0 (Nat.zero_le _) W
  clear h h' hr hr' hf hf' hn hn' hl hl' hc hc'
  go_enter Try.func43, Try.ntmps43
  go_wp2_with (first
    | (go_at_call 52; (with_reducible refine (H1.out).mono ?_); rintro e w1 ⟨A1, n1, c1, rfl, hb⟩; have HB1 := Lib.hid hb; clear hb)
    | (go_at_call 52; (with_reducible refine (H2.out _ (by first | exact HB1.out | exact belA HB1.out _)).mono ?_); rintro e w2 ⟨A2, n2, c2, rfl, hb⟩; have HB2 := Lib.hid hb; clear hb))
  have HBE := Lib.hid (belA (belA HB2.out (.cells #[.slice A1 n1 c1] 78)) (.cells (madeCells #[.int .i64 0, .int .i64 0] 0) 39))
  go_loopw [22] (fun q wr => q = .int .i64 0 ∧ Hid (Below w.heap.size w wr)) (fun _ _ => 0)
  case atStart => exact ⟨rfl, HBE⟩
  case round =>
    obtain ⟨rfl, HB⟩ := hrel
    go_wp2
    go_ret
    exact ⟨_, rfl, HB.out⟩
end Go.Proofs.Ytfjgfmeanehpmaa
