/- The walk of eachPlace: all places of a needle, handed on. -/
import Derived.Test.YtjifekdjkjnefaaF4
namespace Go.Proofs.Ytjifekdjkjnefaa
open Go.RowKit

theorem cf_p1 : ∀ (v a b : Value) W, (callFunc 44 (#[a, b] ++ #[v])).run Try.prog W = .ok (.enter 44 (#[a, b] ++ #[v])) W := fun v a b W => by
  kernel_rfl
theorem cf_p2 : ∀ (v u a b : Value) W, (callFunc 45 (#[a, b] ++ #[v, u])).run Try.prog W = .ok (.enter 45 (#[a, b] ++ #[v, u])) W := fun v u a b W => by
  kernel_rfl
/-- From one world to a later one: only own blocks turned, and no block that is not new came to be own. -/
structure FrO (Ow : World → Nat → Prop) (W W' : World) : Prop where
  size : W.heap.size ≤ W'.heap.size
  keep : ∀ k, k < W.heap.size → ¬ Ow W k → W'.heap[k]? = W.heap[k]?
  own : ∀ k, Ow W' k → Ow W k ∨ W.heap.size ≤ k
/-- What a function that is handed each place keeps: what was handed on, and which blocks are its own. -/
structure JP (K : List Nat → World → Prop) (Ow : World → Nat → Prop) : Prop where
  lt : ∀ es W k, K es W → Ow W k → k < W.heap.size
  past : ∀ es W W', K es W → Below W.heap.size W W' → K es W' ∧ ∀ k, Ow W' k → Ow W k
/-- Boxes that are not own, as they were laid. -/
def KB (Ow : World → Nat → Prop) (B n : Nat) (w3 W : World) : Prop := ∀ k, B ≤ k → k < B + n → W.heap[k]? = w3.heap[k]? ∧ ¬ Ow W k ∧ k < W.heap.size
theorem KB.fro {Ow : World → Nat → Prop} {B n : Nat} {w3 W W' : World} (h : KB Ow B n w3 W) (hf : FrO Ow W W') : KB Ow B n w3 W' := fun k h1 h2 => by
  obtain ⟨a, b, c⟩ := h k h1 h2
  exact ⟨(hf.keep k c b).trans a, fun ho => (hf.own k ho).elim b (by omega), Nat.lt_of_lt_of_le c hf.size⟩
/-- What lies in memory while the needle goes through itself. -/
structure P1 (w : World) (sN : ByteArray) (fv : Value) (f : Nat → Nat) (nl p : Nat) (W : World) : Prop where
  below : Below w.heap.size w W
  size : W.heap.size = w.heap.size + 4
  b0 : W.heap[w.heap.size]? = some (.cells #[.string sN] 9 (0, 0))
  b1 : W.heap[w.heap.size + 1]? = some (.cells #[fv] 79 (0, 0))
  b2 : W.heap[w.heap.size + 2]? = some (.cells (rowA f nl p) 3 (0, 0))
  b3 : W.heap[w.heap.size + 3]? = some (.cells #[.slice (some ⟨w.heap.size + 2, 0, none⟩) nl nl] 42 (0, 0))
theorem P1.set {w W : World} {sN : ByteArray} {fv : Value} {f : Nat → Nat} {nl p : Nat} (h : P1 w sN fv f nl p W) (hp : p < nl) : P1 w sN fv f nl (p + 1) (W.setCell ⟨w.heap.size + 2, p, none⟩ (.int .i64 (f p : Nat))) :=
  have hn : ∀ k, k ≠ w.heap.size + 2 → (W.setCell ⟨w.heap.size + 2, p, none⟩ (.int .i64 (f p : Nat))).heap[k]? = W.heap[k]? := fun k hk => Below.heap_setCell _ _ _ k hk
  ⟨h.below.setCell (p := ⟨w.heap.size + 2, p, none⟩) (by show w.heap.size ≤ w.heap.size + 2; omega) _, by rw [World.size_setCell]; exact h.size, (hn _ (by omega)).trans h.b0, (hn _ (by omega)).trans h.b1, by rw [row_set h.b2, rowA_set f nl p hp], (hn _ (by omega)).trans h.b3⟩
theorem pls_pre {m : UInt8 → UInt8} {T N : List UInt8} {p : Nat} (hp : p ≤ T.length) : ∃ t, plU m T N T.length = plU m T N p ++ t := by
  obtain ⟨d, hd⟩ : ∃ d, T.length = p + d := ⟨T.length - p, by omega⟩
  rw [hd]
  clear hd hp
  induction d with
  | zero => exact ⟨[], by simp⟩
  | succ d ih =>
    obtain ⟨t, ht⟩ := ih
    unfold plU at *
    rcases Nat.lt_or_ge (p + d + 1) N.length with h | h
    · exact ⟨t, by rw [show p + (d + 1) + 1 - N.length = p + d + 1 - N.length by omega]; exact ht⟩
    · rw [show p + (d + 1) + 1 - N.length = p + d + 1 - N.length + 1 by omega, List.range_succ, List.filter_append, ht]
      exact ⟨t ++ _, by rw [List.append_assoc]⟩
set_option maxRecDepth 100000 in
set_option maxHeartbeats 8000000 in
theorem eachPlace_any (m : UInt8 → UInt8) (fM fJ : Nat) (kc : Array Value) (hcM : ∀ a W, (callFunc fM #[a]).run Try.prog W = .ok (.enter fM #[a]) W) (hcJ : ∀ a W, (callFunc fJ (#[a] ++ kc)).run Try.prog W = .ok (.enter fJ (#[a] ++ kc)) W) (hM : ∀ (c : UInt8) W, Calls Try.prog fM #[.int .u8 c.toNat] W fun e w' => e = .returned (.int .u8 (m c).toNat) ∧ W = w')
    (T N : List UInt8) (hT : T.length ≤ 1000000000) (hN : N.length ≤ 1000000000) (w : World) (K : List Nat → World → Prop) (Ow : World → Nat → Prop) (S : List Nat → World → Prop) (H : JP K Ow) (hK0 : K [] w)
    (hmore : ∀ ds p W, (∃ t, pls m T N = ds ++ [p] ++ t) → K ds W → Calls Try.prog fJ (#[.int .i64 p] ++ kc) W fun e w' => ∃ b, e = .returned (.bool b) ∧ (b = true → K (ds ++ [p]) w') ∧ (b = false → S (ds ++ [p]) w') ∧ FrO Ow W w') :
    Calls Try.prog 40 #[.string (bsB T), .string (bsB N), .func (.func fM) #[] #[], .func (.func fJ) #[] kc] w fun e w' => e = .returned (.tuple #[]) ∧ (K (pls m T N) w' ∨ ∃ ds t, pls m T N = ds ++ t ∧ S ds w') := by
  have hsT : (bsB T).size = T.length := bsB_size T
  have hsN : (bsB N).size = N.length := bsB_size N
  have hsTi : ((bsB T).size : Int) = T.length := by rw [hsT]
  have hsNi : ((bsB N).size : Int) = N.length := by rw [hsN]
  have hb1 : Below w.heap.size w ((w.alloc (.cells #[.string (bsB N)] 9)).alloc (.cells #[.func (.func fJ) #[] kc] 79)) := belA (belA (Below.refl _ _) _) _
  by_cases hN0 : N = []
  · subst hN0
    have HF := Lib.hid (H.past _ _ _ hK0 hb1).1
    have hpl : pls m T [] = [] := rfl
    rw [hpl]
    have hem : ((bsB []).toList == ([] : List UInt8)) = true := by rw [bs_toList]; rfl
    clear hb1 hmore H hK0 hM hcM hcJ
    generalize bsB T = sT at *
    generalize bsB [] = sN at *
    go_enter Try.func40, Try.ntmps40
    go_wp2
    refine bodyPost_ret (results_none rfl _ _ _) rfl ?_
    exact ⟨rfl, .inl HF.out⟩
  · have hl0 := List.length_pos_iff.2 hN0
    have hem : ((bsB N).toList == ([] : List UInt8)) = false := by rw [bs_toList]; simpa using hN0
    by_cases hTN : T.length < N.length
    · have HF := Lib.hid (H.past _ _ _ hK0 hb1).1
      have hpl : pls m T N = [] := by unfold pls; rw [if_neg hN0]; exact plU_short m T N hTN
      rw [hpl]
      have hg : (T.length : Int) < N.length := by omega
      clear hb1 hmore H hK0 hM hcM hcJ hTN hN0 hl0 hpl
      generalize bsB T = sT at *
      generalize bsB N = sN at *
      generalize T.length = tl at *
      generalize N.length = nl at *
      go_enter Try.func40, Try.ntmps40
      go_wp2
      refine bodyPost_ret (results_none rfl _ _ _) rfl ?_
      exact ⟨rfl, .inl HF.out⟩
    · have hng : ¬ ((T.length : Int) < N.length) := by omega
      have hpl : pls m T N = plU m T N T.length := by unfold pls; rw [if_neg hN0]
      have hmk := mk_ints N.length hN
      obtain ⟨w4, hw4⟩ : ∃ w4, w4 = (((w.alloc (.cells #[.string (bsB N)] 9)).alloc (.cells #[.func (.func fJ) #[] kc] 79)).alloc (.cells (Array.replicate N.length (Value.int .i64 0)) 3)).alloc (.cells #[.slice (some ⟨w.heap.size + 1 + 1, 0, none⟩) N.length N.length] 42) := ⟨_, rfl⟩
      have HP1 : Hid (P1 w (bsB N) (.func (.func fJ) #[] kc) (bd m N) N.length 1 w4) := Lib.hid (by
        rw [hw4]
        refine ⟨belA (belA (belA (belA (Below.refl _ _) _) _) _) _, by simp, ?_, ?_, ?_, ?_⟩
        · exact ((belA (belA (belA (Below.refl (w.alloc (.cells #[.string (bsB N)] 9)).heap.size _) _) _) _).block _ (by simp)).trans (heap_alloc_new w _)
        · have h2 := heap_alloc_new (w.alloc (.cells #[.string (bsB N)] 9)) (.cells #[.func (.func fJ) #[] kc] 79)
          rw [show (w.alloc (.cells #[.string (bsB N)] 9)).heap.size = w.heap.size + 1 by simp] at h2
          exact ((belA (belA (Below.refl ((w.alloc (.cells #[.string (bsB N)] 9)).alloc (.cells #[.func (.func fJ) #[] kc] 79)).heap.size _) _) _).block _ (by simp)).trans h2
        · rw [← rowA_skip _ _ 0 (by have := bd_lt m N 0; omega), rowA_zero]
          have h2 := heap_alloc_new ((w.alloc (.cells #[.string (bsB N)] 9)).alloc (.cells #[.func (.func fJ) #[] kc] 79)) (.cells (Array.replicate N.length (Value.int .i64 0)) 3)
          rw [show ((w.alloc (.cells #[.string (bsB N)] 9)).alloc (.cells #[.func (.func fJ) #[] kc] 79)).heap.size = w.heap.size + 2 by simp] at h2
          exact ((belA (Below.refl (((w.alloc (.cells #[.string (bsB N)] 9)).alloc (.cells #[.func (.func fJ) #[] kc] 79)).alloc (.cells (Array.replicate N.length (Value.int .i64 0)) 3)).heap.size _) _).block _ (by simp)).trans h2
        · have h2 := heap_alloc_new (((w.alloc (.cells #[.string (bsB N)] 9)).alloc (.cells #[.func (.func fJ) #[] kc] 79)).alloc (.cells (Array.replicate N.length (Value.int .i64 0)) 3)) (.cells #[.slice (some ⟨w.heap.size + 2, 0, none⟩) N.length N.length] 42)
          rw [show (((w.alloc (.cells #[.string (bsB N)] 9)).alloc (.cells #[.func (.func fJ) #[] kc] 79)).alloc (.cells (Array.replicate N.length (Value.int .i64 0)) 3)).heap.size = w.heap.size + 3 by simp] at h2
          exact h2)
      have HA : Hid (Calls Try.prog 43 #[.string (bsB N), .int .i64 1, .string (bsB N), .slice (some ⟨w.heap.size + 1 + 1, 0, none⟩) N.length N.length, .func (.func fM) #[] #[], .func (.func 44) #[] #[.pointer (some ⟨w.heap.size + 1 + 1 + 1, 0, none⟩)]] w4 fun e w' => e = .returned (.tuple #[]) ∧ P1 w (bsB N) (.func (.func fJ) #[] kc) (bd m N) N.length N.length w') := Lib.hid <| by
        refine (eachEnd_any m fM 44 #[.pointer (some ⟨w.heap.size + 3, 0, none⟩)] hcM (cf_p1 _) hM N N hN hN hN0 1 hl0 (w.heap.size + 2) N.length w4 (fun p W => P1 w (bsB N) (.func (.func fJ) #[] kc) (bd m N) N.length p W) (fun _ => False) HP1.out ?_ ?_ ?_).mono fun e w' h => ⟨h.1, h.2.elim id False.elim⟩
        · intro p W h1 h2 hJ i hi hip
          have := row_cell hJ.b2 i _ (rowA_at (bd m N) N.length p i hi)
          rwa [if_pos (by omega)] at this
        · intro p W h1 h2 h0 hJ
          have h0' : bd m N p = 0 := h0
          exact ⟨hJ.below, hJ.size, hJ.b0, hJ.b1, by rw [← rowA_skip _ _ p h0']; exact hJ.b2, hJ.b3⟩
        · intro p n W h1 h2 hn _ hJ
          have hn' : bd m N p = n := hn
          refine (place1_any (w.heap.size + 2) (w.heap.size + 3) _ N.length p n h2 (rowA_size _ _ _) W (row_cell hJ.b3 0 _ rfl) hJ.b2).mono fun e w' h => ⟨true, h.1, fun _ => ?_, fun h => by cases h⟩
          rw [← h.2, ← hn']
          exact hJ.set h2
      have HB : Hid (∀ w3, P1 w (bsB N) (.func (.func fJ) #[] kc) (bd m N) N.length N.length w3 → Calls Try.prog 43 #[.string (bsB T), .int .i64 0, .string (bsB N), .slice (some ⟨w.heap.size + 2, 0, none⟩) N.length N.length, .func (.func fM) #[] #[], .func (.func 45) #[] #[.pointer (some ⟨w.heap.size, 0, none⟩), .pointer (some ⟨w.heap.size + 1, 0, none⟩)]] w3 fun e w' => e = .returned (.tuple #[]) ∧ (K (pls m T N) w' ∨ ∃ ds t, pls m T N = ds ++ t ∧ S ds w')) := Lib.hid fun w3 hp3 => by
        have hK3 := H.past _ _ _ hK0 hp3.below
        refine (eachEnd_any m fM 45 #[.pointer (some ⟨w.heap.size, 0, none⟩), .pointer (some ⟨w.heap.size + 1, 0, none⟩)] hcM (cf_p2 _ _) hM T N hT hN hN0 0 (Nat.zero_le _) (w.heap.size + 2) N.length w3 (fun p W => K (plU m T N p) W ∧ KB Ow w.heap.size 4 w3 W) (fun W => ∃ ds t, pls m T N = ds ++ t ∧ S ds W) ?_ ?_ ?_ ?_).mono fun e w' h => ⟨h.1, h.2.imp (fun h => by rw [hpl]; exact h.1) id⟩
        · refine ⟨by rw [plU_zero m T N hN0]; exact hK3.1, fun k h1 h2 => ⟨rfl, fun ho => ?_, by rw [hp3.size]; exact h2⟩⟩
          have := H.lt _ _ k hK0 (hK3.2 k ho)
          omega
        · intro p W h1 h2 hJ i hi hip
          have := row_cell (((hJ.2 (w.heap.size + 2) (by omega) (by omega)).1).trans hp3.b2) i _ (rowA_at (bd m N) N.length N.length i hi)
          rwa [if_pos hi] at this
        · intro p W h1 h2 h0 hJ
          exact ⟨by rw [plU_no h2 (by rw [h0]; omega)]; exact hJ.1, hJ.2⟩
        · intro p n W h1 h2 hn hn0 hJ
          have c0 := row_cell (((hJ.2 w.heap.size (by omega) (by omega)).1).trans hp3.b0) 0 _ rfl
          have c1 := row_cell (((hJ.2 (w.heap.size + 1) (by omega) (by omega)).1).trans hp3.b1) 0 _ rfl
          by_cases hnl : n = N.length
          · have hy := plU_yes h2 (hn.trans hnl)
            have hle : N.length ≤ p + 1 := ((stands_mx h2).1 (hn.trans hnl)).1
            obtain ⟨t, ht⟩ := pls_pre (m := m) (T := T) (N := N) (p := p + 1) (by omega)
            refine place2_eq w.heap.size (w.heap.size + 1) (bsB N) p n (p + 1 - N.length) fJ kc hcJ (by rw [hnl, hsN]) (by omega) (by omega) W c0 c1 (fun b w' => (b = true → K (plU m T N (p + 1)) w' ∧ KB Ow w.heap.size 4 w3 w') ∧ (b = false → ∃ ds t, pls m T N = ds ++ t ∧ S ds w')) ?_
            refine (hmore (plU m T N p) (p + 1 - N.length) W ⟨t, by rw [hpl, ht, hy]⟩ hJ.1).mono fun e w' ⟨b, he, k1, k2, k3⟩ => ⟨b, he, fun hb => ⟨by rw [hy]; exact k1 hb, hJ.2.fro k3⟩, fun hb => ⟨_, t, by rw [hpl, ht, hy], k2 hb⟩⟩
          · refine (place2_lt w.heap.size (w.heap.size + 1) (bsB N) p n (by have := mx_le_len m T N 0 (p + 1); rw [hsN]; omega) W c0).mono fun e w' h => ⟨true, h.1, fun _ => ?_, fun h => by cases h⟩
            rw [← h.2]
            exact ⟨by rw [plU_no h2 (by omega)]; exact hJ.1, hJ.2⟩
      have HC : Hid (∀ w3, P1 w (bsB N) (.func (.func fJ) #[] kc) (bd m N) N.length N.length w3 → w3.cell? ⟨w.heap.size, 0, none⟩ = some (.string (bsB N)) ∧ w3.cell? ⟨w.heap.size + 1, 0, none⟩ = some (.func (.func fJ) #[] kc) ∧ w3.cell? ⟨w.heap.size + 1 + 1 + 1, 0, none⟩ = some (.slice (some ⟨w.heap.size + 2, 0, none⟩) N.length N.length)) := Lib.hid fun w3 h => ⟨row_cell h.b0 0 _ rfl, row_cell h.b1 0 _ rfl, row_cell h.b3 0 _ rfl⟩
      have HW4 := Lib.hid hw4
      have hln : (N.length : Int) ≤ 1000000000 := by omega
      clear hb1 hmore H hK0 hM hcM hcJ hTN hN0 hl0 hpl hw4 hsT hsN
      generalize pls m T N = pl at *
      generalize bsB T = sT at *
      generalize bsB N = sN at *
      generalize bd m N = fb at *
      generalize T.length = tl at *
      generalize N.length = nl at *
      go_enter Try.func40, Try.ntmps40
      go_wp2_with (first
        | (go_at_call 43; rw [← HW4.out]; (with_reducible refine HA.out.mono ?_); rintro e w3 ⟨rfl, hp3⟩; obtain ⟨c0, c1, c3⟩ := HC.out w3 hp3; have HD := Lib.hid (HB.out w3 hp3); clear HA HB HC HW4 hp3)
        | (go_at_call 43; (with_reducible refine HD.out.mono ?_); rintro e w5 ⟨rfl, h5⟩; have H5 := Lib.hid h5; clear h5))
      go_end0
      exact ⟨rfl, H5.out⟩

end Go.Proofs.Ytjifekdjkjnefaa
