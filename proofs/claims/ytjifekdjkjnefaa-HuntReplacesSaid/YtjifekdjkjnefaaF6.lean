/- Numbers gathered behind a box; all's function, and all places. -/
import Derived.Test.YtjifekdjkjnefaaF5
import Derived.Maps.AppendAt
namespace Go.Proofs.Ytjifekdjkjnefaa
open Go.RowKit

theorem own_formC {w : World} {base : Nat} {e : TypeId} {size : Nat} {v : Value} {k : Nat} {xs : List Value} (h : w.ownsRow base e size v k xs) : ∃ A c, v = .slice A k c ∧ k ≤ c := by
  rcases h.2 with ⟨rfl, rfl⟩ | ⟨g, cap, cur, rfl, _, _, h1, _⟩
  · exact ⟨none, 0, rfl, Nat.le_refl _⟩
  · exact ⟨_, cap, rfl, h1⟩
def intV (xs : List Nat) : List Value := xs.map fun x => .int .i64 (x : Nat)
theorem intV_snoc (xs : List Nat) (p : Nat) : intV (xs ++ [p]) = intV xs ++ [.int .i64 (p : Nat)] := by simp [intV]
/-- The row's box at b is an own block, and so is its row's block. -/
def OwI (b : Nat) (W : World) (k : Nat) : Prop := k = b ∨ ∃ v, W.heap[b]? = some (.cells #[v] 42 (0, 0)) ∧ v.ownBlock = some k
/-- Numbers gathered behind a box at b. -/
def IB (w0 : World) (b : Nat) (xs : List Nat) (W : World) : Prop :=
  Below w0.heap.size w0 W ∧ w0.heap.size ≤ b ∧ b < W.heap.size ∧ ∃ A c, W.heap[b]? = some (.cells #[.slice A xs.length c] 42 (0, 0)) ∧ W.ownsRow (b + 1) 3 1 (.slice A xs.length c) xs.length (intV xs)
theorem IB.lt {w0 W : World} {b : Nat} {xs : List Nat} (h : IB w0 b xs W) {k : Nat} (ho : OwI b W k) : b ≤ k ∧ k < W.heap.size := by
  obtain ⟨_, _, h2, A, c, h3, h4⟩ := h
  rcases ho with rfl | ⟨v, hv, hk⟩
  · exact ⟨Nat.le_refl _, h2⟩
  · rw [h3] at hv
    simp only [Option.some.injEq, Obj.cells.injEq, Array.mk.injEq, List.cons.injEq, and_true] at hv
    subst hv
    have := h4.lt k hk
    exact ⟨by omega, this.2⟩
theorem IB.past {w0 W W' : World} {b : Nat} {xs : List Nat} (h : IB w0 b xs W) (hb : Below W.heap.size W W') : IB w0 b xs W' ∧ ∀ k, OwI b W' k → OwI b W k := by
  obtain ⟨h0, h1, h2, A, c, h3, h4⟩ := h
  have e := hb.block b h2
  refine ⟨⟨bel0 h0 hb, h1, Nat.lt_of_lt_of_le h2 hb.size, A, c, e.trans h3, own_past h4 hb⟩, fun k ho => ?_⟩
  rcases ho with rfl | ⟨v, hv, hk⟩
  · exact .inl rfl
  · exact .inr ⟨v, e.symm.trans hv, hk⟩
theorem IB.put {w0 W W2 : World} {b p : Nat} {xs : List Nat} {A : Option Addr} {c : Nat} (h : IB w0 b xs W) (h3 : W.heap[b]? = some (.cells #[.slice A xs.length c] 42 (0, 0))) (hb2 : Below W.heap.size W W2) {v8 : Value} {w8 : World}
    (ho : w8.ownsRow (b + 1) 3 1 v8 (xs.length + 1) (intV xs ++ [.int .i64 (p : Nat)])) (hg : W2.grownBy w8 (Value.slice A xs.length c).ownBlock) (hv8 : v8.ownBlock = (Value.slice A xs.length c).ownBlock ∨ v8.ownBlock = some W2.heap.size) :
    (w8.frozen? ⟨b, 0, none⟩ = false ∧ ∃ o, w8.cell? ⟨b, 0, none⟩ = some o) ∧ IB w0 b (xs ++ [p]) (w8.setCell ⟨b, 0, none⟩ v8) ∧ FrO (OwI b) W (w8.setCell ⟨b, 0, none⟩ v8) := by
  obtain ⟨h0, h1, h2, A', c', h3', h4⟩ := h
  rw [h3] at h3'
  simp only [Option.some.injEq, Obj.cells.injEq, Array.mk.injEq, List.cons.injEq, and_true, Value.slice.injEq, true_and] at h3'
  obtain ⟨rfl, rfl⟩ := h3'
  have hbx := (hb2.block b h2).trans h3
  have hne : (Value.slice A xs.length c).ownBlock ≠ some b := fun e => by have := (h4.lt b e).1; omega
  have hb8 : w8.heap[b]? = some (.cells #[.slice A xs.length c] 42 (0, 0)) := (hg.block b (by have := hb2.size; omega) (fun e => hne e.symm)).trans hbx
  have hn8 : v8.ownBlock ≠ some b := fun e => by have := (ho.lt b e).1; omega
  obtain ⟨A8, c8, rfl, _⟩ := own_formC ho
  have hset : (w8.setCell ⟨b, 0, none⟩ (.slice A8 (xs.length + 1) c8)).heap[b]? = some (.cells #[.slice A8 (xs.length + 1) c8] 42 (0, 0)) := by simp [World.setCell, Array.getElem?_modify, hb8]
  have hkeep : ∀ k, k < W.heap.size → k ≠ b → (Value.slice A xs.length c).ownBlock ≠ some k → (w8.setCell ⟨b, 0, none⟩ (.slice A8 (xs.length + 1) c8)).heap[k]? = W.heap[k]? := fun k hk hkb hko => (Below.heap_setCell _ _ _ k hkb).trans ((hg.block k (by have := hb2.size; omega) (fun e => hko e.symm)).trans (hb2.block k hk))
  have hlen : (xs ++ [p]).length = xs.length + 1 := by simp
  refine ⟨⟨by simp [World.frozen?, hb8], _, cell_of_row _ _ 0 _ _ _ hb8⟩, ⟨⟨?_, ?_, ?_, ?_, fun k hk => ?_⟩, h1, ?_, A8, c8, by rw [hlen]; exact hset, ?_⟩, ⟨?_, fun k hk hno => ?_, fun k ho8 => ?_⟩⟩
  · exact hg.os.trans (hb2.os.trans h0.os)
  · exact hg.tape.trans (hb2.tape.trans h0.tape)
  · exact hg.output.trans (hb2.output.trans h0.output)
  · rw [World.size_setCell]; exact Nat.le_trans h0.size (Nat.le_trans hb2.size hg.size)
  · exact (hkeep k (Nat.lt_of_lt_of_le hk h0.size) (by omega) (fun e => by have := (h4.lt k e).1; omega)).trans (h0.block k hk)
  · rw [World.size_setCell]; exact Nat.lt_of_lt_of_le h2 (Nat.le_trans hb2.size hg.size)
  · rw [hlen, intV_snoc]
    exact ho.kept (row := some b) ⟨rfl, rfl, rfl, by simp [World.setCell], fun k _ hk => Below.heap_setCell _ _ _ _ (fun e => hk (by simp [e]))⟩ (.inr hn8)
  · rw [World.size_setCell]; exact Nat.le_trans hb2.size hg.size
  · exact hkeep k hk (fun e => hno (.inl e)) (fun e => hno (.inr ⟨_, h3, e⟩))
  · rcases ho8 with rfl | ⟨v, hv, hk⟩
    · exact .inl (.inl rfl)
    · rw [hset] at hv
      simp only [Option.some.injEq, Obj.cells.injEq, Array.mk.injEq, List.cons.injEq, and_true] at hv
      subst hv
      rcases hv8 with e | e
      · exact .inl (.inr ⟨_, h3, e.symm.trans hk⟩)
      · rw [e] at hk
        injection hk with hk
        exact .inr (by have := hb2.size; omega)
theorem IB.first (w : World) : IB w w.heap.size [] (w.alloc (.cells #[.slice none 0 0] 42)) :=
  ⟨belA (Below.refl _ _) _, Nat.le_refl _, by simp, none, 0, heap_alloc_new w _, World.ownsRow_nil _ _ _ _⟩
theorem IB.last {w0 W : World} {b : Nat} {xs : List Nat} (h : IB w0 b xs W) : ∃ A c, W.cell? ⟨b, 0, none⟩ = some (.slice A xs.length c) ∧ W.ownsRow w0.heap.size 3 1 (.slice A xs.length c) xs.length (intV xs) := by
  obtain ⟨_, h1, _, A, c, h3, h4⟩ := h
  exact ⟨A, c, cell_of_row _ _ 0 _ _ _ h3, own_mono h4 (by omega)⟩
set_option maxRecDepth 100000 in
set_option maxHeartbeats 4000000 in
theorem allC_any (w0 : World) (b p : Nat) (xs : List Nat) (hl : xs.length ≤ 1000000000) (W : World) (h : IB w0 b xs W) :
    Calls Try.prog 41 #[.int .i64 p, .pointer (some ⟨b, 0, none⟩)] W fun e w' => e = .returned (.bool true) ∧ IB w0 b (xs ++ [p]) w' ∧ FrO (OwI b) W w' := by
  obtain ⟨i0, hi0, hz0, hz1, hz2⟩ := info_parts Try.infoInt
  have HI := Lib.hid h
  obtain ⟨h0, h1, h2, A, c, h3, h4⟩ := h
  have hb2 : Below W.heap.size W (W.alloc (.cells #[.int .i64 p] 3)) := belA (Below.refl _ _) _
  have HO2 := Lib.hid (own_past h4 hb2)
  have HEND : Hid (∀ v8 w8, w8.ownsRow (b + 1) 3 1 v8 (xs.length + 1) (intV xs ++ [.int .i64 (p : Nat)]) → (W.alloc (.cells #[.int .i64 p] 3)).grownBy w8 (Value.slice A xs.length c).ownBlock → (v8.ownBlock = (Value.slice A xs.length c).ownBlock ∨ v8.ownBlock = some (W.alloc (.cells #[.int .i64 p] 3)).heap.size) → (w8.frozen? ⟨b, 0, none⟩ = false ∧ ∃ o, w8.cell? ⟨b, 0, none⟩ = some o) ∧ IB w0 b (xs ++ [p]) (w8.setCell ⟨b, 0, none⟩ v8) ∧ FrO (OwI b) W (w8.setCell ⟨b, 0, none⟩ v8)) := Lib.hid fun v8 w8 ho hg hv8 => HI.out.put h3 hb2 ho hg hv8
  have c0 : W.cell? ⟨b, 0, none⟩ = some (.slice A xs.length c) := cell_of_row _ _ 0 _ _ _ h3
  have hs2 : b + 1 ≤ (W.alloc (.cells #[.int .i64 p] 3)).heap.size := by have := hb2.size; omega
  clear h0 h1 h3 h4 HI hb2 h2
  generalize xs.length = n at *
  generalize intV xs = os at *
  go_enter Try.func41, Try.ntmps41
  go_wp2_with (at_builtin; go_must (refine wpList_append_own_at _ rfl (.tmp 4) (.tmp 6) 42 rfl (b + 1) 3 i0 _ 1 8 Try.underlying42 hi0 hz0 hz1 hz2 rfl (by decide) (.slice A n c) n os rfl HO2.out ⟨W.heap.size, 0, none⟩ 1 1 [.int .i64 p] rfl rfl (news1 _ _ _) (by simp [Value.oneCell']) (by unfold maxLen; omega) (by omega) hs2 ?_; intro v8 w8 ho8 hg8 _ hb8; obtain ⟨A8, c9, rfl, _⟩ := own_formC ho8; obtain ⟨⟨f8, o8, c8⟩, hP, hF⟩ := HEND.out _ _ ho8 hg8 hb8; have HP := Lib.hid hP; have HF := Lib.hid hF; clear ho8 hg8 hb8 hP hF))
  go_ret
  exact ⟨rfl, HP.out, HF.out⟩
theorem plU_len (m : UInt8 → UInt8) (T N : List UInt8) : (pls m T N).length ≤ T.length + 1 := by
  unfold pls
  split
  · simp
  · unfold plU
    refine Nat.le_trans (List.length_filter_le _ _) ?_
    rw [List.length_range]
    omega
theorem cf_all : ∀ (v a : Value) W, (callFunc 41 (#[a] ++ #[v])).run Try.prog W = .ok (.enter 41 (#[a] ++ #[v])) W := fun v a W => by
  kernel_rfl
/-- A slice of one's own that reads as numbers. -/
def IntsPost (L : List Nat) (w : World) (e : Ending) (w' : World) : Prop := ∃ A c, e = .returned (.slice A L.length c) ∧ w'.ownsRow w.heap.size 3 1 (.slice A L.length c) L.length (intV L) ∧ Below w.heap.size w w'
set_option maxRecDepth 100000 in
set_option maxHeartbeats 4000000 in
theorem allF_any (m : UInt8 → UInt8) (fM : Nat) (hcM : ∀ a W, (callFunc fM #[a]).run Try.prog W = .ok (.enter fM #[a]) W) (hM : ∀ (c : UInt8) W, Calls Try.prog fM #[.int .u8 c.toNat] W fun e w' => e = .returned (.int .u8 (m c).toNat) ∧ W = w')
    (T N : List UInt8) (hT : T.length ≤ 100000000) (hN : N.length ≤ 100000000) (w : World) :
    Calls Try.prog 33 #[.string (bsB T), .string (bsB N), .func (.func fM) #[] #[]] w (IntsPost (pls m T N) w) := by
  have hlen := plU_len m T N
  have HA : Hid (Calls Try.prog 40 #[.string (bsB T), .string (bsB N), .func (.func fM) #[] #[], .func (.func 41) #[] #[.pointer (some ⟨w.heap.size, 0, none⟩)]] (w.alloc (.cells #[.slice none 0 0] 42)) fun e w' => e = .returned (.tuple #[]) ∧ IB w w.heap.size (pls m T N) w') := Lib.hid <| by
    refine (eachPlace_any m fM 41 #[.pointer (some ⟨w.heap.size, 0, none⟩)] hcM (cf_all _) hM T N (by omega) (by omega) _ (fun ds W => IB w w.heap.size ds W) (OwI w.heap.size) (fun _ _ => False) ⟨fun _ _ k h ho => (h.lt ho).2, fun _ _ _ h hb => h.past hb⟩ (IB.first w) ?_).mono fun e w' h => ⟨h.1, h.2.elim id fun ⟨_, _, _, h⟩ => h.elim⟩
    intro ds p W ⟨t, ht⟩ hK
    exact (allC_any w w.heap.size p ds (by rw [ht] at hlen; simp at hlen; omega) W hK).mono fun e w' h => ⟨true, h.1, fun _ => h.2.1, fun h => (by cases h), h.2.2⟩
  have HB : Hid (∀ w', IB w w.heap.size (pls m T N) w' → ∃ A c, w'.cell? ⟨w.heap.size, 0, none⟩ = some (.slice A (pls m T N).length c) ∧ w'.ownsRow w.heap.size 3 1 (.slice A (pls m T N).length c) (pls m T N).length (intV (pls m T N))) := Lib.hid fun w' h => h.last
  clear hlen hM hcM
  unfold IntsPost
  generalize pls m T N = pl at *
  generalize pl.length = n at *
  generalize intV pl = os at *
  generalize bsB T = sT at *
  generalize bsB N = sN at *
  go_enter Try.func33, Try.ntmps33
  go_wp2_with (go_at_call 40; (with_reducible refine HA.out.mono ?_); rintro e w3 ⟨rfl, h3⟩; obtain ⟨A, c, c3, ho3⟩ := HB.out w3 h3; have HO := Lib.hid ho3; have HL := Lib.hid h3.1; clear ho3 h3)
  go_ret
  exact ⟨A, c, rfl, HO.out, HL.out⟩

end Go.Proofs.Ytjifekdjkjnefaa
