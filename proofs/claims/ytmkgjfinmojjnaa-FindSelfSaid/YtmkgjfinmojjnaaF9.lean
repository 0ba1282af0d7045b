/- The walk of Apart: places that don't overlap. -/
import Derived.Test.YtmkgjfinmojjnaaF8
namespace Go.Proofs.Ytmkgjfinmojjnaa
open Go.RowKit

theorem cf_apart : ∀ (v u a : Value) W, (callFunc 26 (#[a] ++ #[v, u])).run Try.prog W = .ok (.enter 26 (#[a] ++ #[v, u])) W := fun v u a W => by
  kernel_rfl
/-- One place more: taken, if it doesn't overlap the last one. -/
def apS (n : Nat) (acc : List Nat) (p : Nat) : List Nat := if acc = [] ∨ acc.getLast?.getD 0 + n ≤ p then acc ++ [p] else acc
def apL (n : Nat) (l : List Nat) : List Nat := l.foldl (apS n) []
theorem apL_snoc (n : Nat) (l : List Nat) (p : Nat) : apL n (l ++ [p]) = apS n (apL n l) p := by
  unfold apL
  rw [List.foldl_append]
  rfl
theorem apS_le (n : Nat) (acc : List Nat) (p : Nat) : (apS n acc p).length ≤ acc.length + 1 := by
  unfold apS
  split
  · simp
  · omega
theorem apL_le (n : Nat) (l : List Nat) : (apL n l).length ≤ l.length := by
  unfold apL
  suffices h : ∀ (l : List Nat) acc, (l.foldl (apS n) acc).length ≤ acc.length + l.length by
    have := h l []
    simpa using this
  intro l
  induction l with
  | nil => intro acc; simp
  | cons p t ih =>
    intro acc
    have h1 := ih (apS n acc p)
    have h2 := apS_le n acc p
    simp only [List.foldl_cons, List.length_cons]
    omega
theorem apS_no {n : Nat} {acc : List Nat} {p : Nat} (h : acc ≠ []) (h2 : p < acc.getLast?.getD 0 + n) : apS n acc p = acc := by
  unfold apS
  rw [if_neg]
  rintro (e | e)
  · exact h e
  · omega
theorem apS_yes {n : Nat} {acc : List Nat} {p : Nat} (h : acc = [] ∨ acc.getLast?.getD 0 + n ≤ p) : apS n acc p = acc ++ [p] := if_pos h
/-- Numbers behind a box at b, and a text in the box ahead of it. -/
def IT (w0 : World) (s : ByteArray) (xs : List Nat) (W : World) : Prop := IB w0 (w0.heap.size + 1) xs W ∧ W.heap[w0.heap.size]? = some (.cells #[.string s] 9 (0, 0))
theorem IT.past {w0 W W' : World} {s : ByteArray} {xs : List Nat} (h : IT w0 s xs W) (hb : Below W.heap.size W W') : IT w0 s xs W' ∧ ∀ k, OwI (w0.heap.size + 1) W' k → OwI (w0.heap.size + 1) W k :=
  ⟨⟨(h.1.past hb).1, (hb.block _ (Array.getElem?_eq_some_iff.1 h.2).1).trans h.2⟩, (h.1.past hb).2⟩
theorem IT.fro {w0 W W' : World} {s : ByteArray} {xs ys : List Nat} (h : IT w0 s xs W) (h2 : IB w0 (w0.heap.size + 1) ys W') (hf : FrO (OwI (w0.heap.size + 1)) W W') : IT w0 s ys W' :=
  ⟨h2, (hf.keep _ (Array.getElem?_eq_some_iff.1 h.2).1 (fun ho => by have := (h.1.lt ho).1; omega)).trans h.2⟩
theorem IB.at {w0 W : World} {b : Nat} {xs : List Nat} (h : IB w0 b xs W) : ∃ A c, W.heap[b]? = some (.cells #[.slice A xs.length c] 23 (0, 0)) ∧ W.ownsRow (b + 1) 3 1 (.slice A xs.length c) xs.length (intV xs) ∧ (xs ≠ [] → ∃ g, A = some ⟨g, 0, none⟩ ∧ W.cell? ⟨g, xs.length - 1, none⟩ = some (.int .i64 (xs.getLast?.getD 0 : Nat))) := by
  obtain ⟨_, _, _, A, c, h3, h4⟩ := h
  refine ⟨A, c, h3, h4, fun hne => ?_⟩
  have hl := List.length_pos_iff.2 hne
  obtain ⟨A', c', e, hA⟩ := own_form h4
  injection e with e1 _ _
  subst e1
  obtain ⟨g, rfl⟩ := hA hl
  refine ⟨g, rfl, ?_⟩
  have := h4.cellAt (xs.length - 1) (by omega)
  rw [this]
  unfold intV
  rw [List.getElem?_map, List.getLast?_eq_getElem?, List.getElem?_eq_getElem (by omega)]
  rfl
set_option maxRecDepth 100000 in
set_option maxHeartbeats 4000000 in
theorem apartC_any (w0 : World) (N : List UInt8) (p : Nat) (hp : p ≤ 1000000000) (xs : List Nat) (hl : xs.length ≤ 1000000000) (hx : ∀ x ∈ xs, x ≤ 1000000000) (W : World) (h : IT w0 (bsB N) xs W) :
    Calls Try.prog 26 #[.int .i64 p, .pointer (some ⟨w0.heap.size + 1, 0, none⟩), .pointer (some ⟨w0.heap.size, 0, none⟩)] W fun e w' => e = .returned (.bool true) ∧ IT w0 (bsB N) (apS N.length xs p) w' ∧ FrO (OwI (w0.heap.size + 1)) W w' := by
  obtain ⟨i0, hi0, hz0, hz1, hz2⟩ := info_parts Try.infoInt
  have cN : W.cell? ⟨w0.heap.size, 0, none⟩ = some (.string (bsB N)) := row_cell h.2 0 _ rfl
  have HI := Lib.hid h
  obtain ⟨A, c, h3, h4, hlast⟩ := h.1.at
  have c0 : W.cell? ⟨w0.heap.size + 1, 0, none⟩ = some (.slice A xs.length c) := row_cell h3 0 _ rfl
  have hbsz := (Array.getElem?_eq_some_iff.1 h3).1
  have hsN : ((bsB N).size : Int) = N.length := by rw [bsB_size]
  have HALL : Hid (∀ W2, Below W.heap.size W W2 → W2.cell? ⟨w0.heap.size + 1, 0, none⟩ = some (.slice A xs.length c) ∧ (w0.heap.size + 1 + 1 ≤ (W2.alloc (.cells #[.int .i64 p] 3)).heap.size) ∧ Hid ((W2.alloc (.cells #[.int .i64 p] 3)).ownsRow (w0.heap.size + 1 + 1) 3 1 (.slice A xs.length c) xs.length (intV xs)) ∧ Hid (IT w0 (bsB N) xs W2 ∧ FrO (OwI (w0.heap.size + 1)) W W2) ∧
      Hid (∀ v8 w8, w8.ownsRow (w0.heap.size + 1 + 1) 3 1 v8 (xs.length + 1) (intV xs ++ [.int .i64 (p : Nat)]) → (W2.alloc (.cells #[.int .i64 p] 3)).grownBy w8 (Value.slice A xs.length c).ownBlock → (v8.ownBlock = (Value.slice A xs.length c).ownBlock ∨ v8.ownBlock = some (W2.alloc (.cells #[.int .i64 p] 3)).heap.size) → (w8.frozen? ⟨w0.heap.size + 1, 0, none⟩ = false ∧ ∃ o, w8.cell? ⟨w0.heap.size + 1, 0, none⟩ = some o) ∧ IT w0 (bsB N) (xs ++ [p]) (w8.setCell ⟨w0.heap.size + 1, 0, none⟩ v8) ∧ FrO (OwI (w0.heap.size + 1)) W (w8.setCell ⟨w0.heap.size + 1, 0, none⟩ v8))) := Lib.hid fun W2 hb => by
    have hb2 := belA hb (.cells #[.int .i64 p] 3)
    refine ⟨row_cell ((hb.block _ hbsz).trans h3) 0 _ rfl, by have := hb2.size; omega, Lib.hid (own_past h4 hb2), Lib.hid ⟨(HI.out.past hb).1, ⟨hb.size, fun k hk _ => hb.block k hk, fun k hk => .inl ((HI.out.past hb).2 k hk)⟩⟩, Lib.hid fun v8 w8 ho hg hv8 => ?_⟩
    obtain ⟨k1, k2, k3⟩ := HI.out.1.put h3 hb2 ho hg hv8
    exact ⟨k1, HI.out.fro k2 k3, k3⟩
  have HBN := Lib.hid (belN' W)
  by_cases hx0 : xs = []
  · have HY := Lib.hid (apS_yes (n := N.length) (p := p) (.inl hx0))
    have hl0 : xs.length = 0 := by rw [hx0]; rfl
    rw [hl0] at c0 HALL
    clear hx0 hlast h4 HI hbsz h3 hx h hl0
    generalize apS N.length xs p = rs at *
    generalize intV xs = os at *
    generalize bsB N = sN at *
    go_enter Try.func26, Try.ntmps26
    go_wp2_with fail
    go_quiet (fail)
    have hbn := HBN.out nq
    clear HBN c0 cN
    generalize W.drewN nq = W2 at *
    obtain ⟨c2, hs2, HO2, _, HEND⟩ := HALL.out W2 hbn
    clear hbn HALL
    go_wp2_with (at_builtin; go_must (refine wpList_append_own_at _ rfl (.tmp 21) (.tmp 23) 23 rfl (w0.heap.size + 1 + 1) 3 i0 _ 1 8 Try.underlying23 hi0 hz0 hz1 hz2 rfl (by decide) (.slice A 0 c) 0 os rfl HO2.out ⟨W2.heap.size, 0, none⟩ 1 1 [.int .i64 p] rfl rfl (news1 _ _ _) (by simp [Value.oneCell']) (by unfold maxLen; omega) (by omega) hs2 ?_; intro v8 w8 ho8 hg8 _ hb8; obtain ⟨A8, c9, rfl, _⟩ := own_formC ho8; obtain ⟨⟨f8, o8, c8⟩, hP, hF⟩ := HEND.out _ _ ho8 hg8 hb8; have HP := Lib.hid hP; have HF := Lib.hid hF; clear ho8 hg8 hb8 hP hF))
    go_ret
    exact ⟨rfl, by rw [HY.out]; exact HP.out, HF.out⟩
  · obtain ⟨g, rfl, hcl⟩ := hlast hx0
    have hmem : xs.getLast?.getD 0 ≤ 1000000000 := by
      rw [List.getLast?_eq_some_getLast hx0]
      exact hx _ (List.getLast_mem hx0)
    have HYN := Lib.hid (apS_no (n := N.length) (p := p) hx0)
    have HYY : Hid (xs.getLast?.getD 0 + N.length ≤ p → apS N.length xs p = xs ++ [p]) := Lib.hid fun e => apS_yes (.inr e)
    obtain ⟨n, hn⟩ : ∃ n, xs.length = n + 1 := ⟨xs.length - 1, by have := List.length_pos_iff.2 hx0; omega⟩
    rw [hn] at c0 HALL hcl
    rw [Nat.add_sub_cancel] at hcl
    clear hx0 hlast h4 HI hbsz h3 hx h
    generalize xs.getLast?.getD 0 = l at *
    have hw0 : IntKind.i64.wrap ((n : Int) + 1 - 1) = n := by rw [IntKind.wrap_i64]; omega
    have hw1 : IntKind.i64.wrap ((p : Int) - l) = (p : Int) - l := IntWalk.i64_in _ (by omega)
    have hne : ((n : Int) + 1 == 0) = false := by simp; omega
    have hni : (n : Int) < (n : Int) + 1 := by omega
    by_cases hge : l + N.length ≤ p
    · have HY := Lib.hid (HYY.out hge)
      have hd : decide ((N.length : Int) ≤ (p : Int) - l) = true := decide_eq_true (by omega)
      have hd2 : (N.length : Int) ≤ (p : Int) - l := by omega
      clear HYY HYN hge
      generalize apS N.length xs p = rs at *
      generalize intV xs = os at *
      generalize bsB N = sN at *
      go_enter Try.func26, Try.ntmps26
      go_wp2_with fail
      go_quiet (fail)
      have hbn := HBN.out nq
      clear HBN c0 cN hcl
      generalize W.drewN nq = W2 at *
      obtain ⟨c2, hs2, HO2, _, HEND⟩ := HALL.out W2 hbn
      clear hbn HALL
      go_wp2_with (at_builtin; go_must (refine wpList_append_own_at _ rfl (.tmp 21) (.tmp 23) 23 rfl (w0.heap.size + 1 + 1) 3 i0 _ 1 8 Try.underlying23 hi0 hz0 hz1 hz2 rfl (by decide) (.slice (some ⟨g, 0, none⟩) (n + 1) c) (n + 1) os rfl HO2.out ⟨W2.heap.size, 0, none⟩ 1 1 [.int .i64 p] rfl rfl (news1 _ _ _) (by simp [Value.oneCell']) (by unfold maxLen; omega) (by omega) hs2 ?_; intro v8 w8 ho8 hg8 _ hb8; obtain ⟨A8, c9, rfl, _⟩ := own_formC ho8; obtain ⟨⟨f8, o8, c8⟩, hP, hF⟩ := HEND.out _ _ ho8 hg8 hb8; have HP := Lib.hid hP; have HF := Lib.hid hF; clear ho8 hg8 hb8 hP hF))
      go_ret
      exact ⟨rfl, by rw [HY.out]; exact HP.out, HF.out⟩
    · have HY := Lib.hid (HYN.out (by omega))
      have hd : decide ((N.length : Int) ≤ (p : Int) - l) = false := decide_eq_false (by omega)
      have hd2 : ¬ (N.length : Int) ≤ (p : Int) - l := by omega
      clear HYY HYN hge
      generalize apS N.length xs p = rs at *
      generalize intV xs = os at *
      generalize bsB N = sN at *
      go_enter Try.func26, Try.ntmps26
      go_wp2_with fail
      go_quiet (fail)
      have hbn := HBN.out nq
      clear HBN c0 cN hcl
      generalize W.drewN nq = W2 at *
      obtain ⟨_, _, _, HN2, _⟩ := HALL.out W2 hbn
      clear hbn HALL
      go_wp2
      go_ret
      exact ⟨rfl, by rw [HY.out]; exact HN2.out.1, HN2.out.2⟩
theorem apL_mem (n : Nat) (l : List Nat) : ∀ x ∈ apL n l, x ∈ l := by
  unfold apL
  suffices h : ∀ (l : List Nat) acc x, x ∈ l.foldl (apS n) acc → x ∈ acc ∨ x ∈ l by
    intro x hx
    rcases h l [] x hx with h | h
    · simp at h
    · exact h
  intro l
  induction l with
  | nil => intro acc x h; exact .inl h
  | cons p t ih =>
    intro acc x h
    rcases ih (apS n acc p) x h with h | h
    · unfold apS at h
      split at h
      · rcases List.mem_append.1 h with h | h
        · exact .inl h
        · exact .inr (by rw [List.mem_singleton.1 h]; exact List.mem_cons_self)
      · exact .inl h
    · exact .inr (List.mem_cons_of_mem _ h)
theorem pls_le (m : UInt8 → UInt8) (T N : List UInt8) : ∀ p ∈ pls m T N, p ≤ T.length := by
  intro p hp
  unfold pls at hp
  split at hp
  · simp at hp
  · have := List.mem_range.1 (List.mem_filter.1 hp).1
    omega
theorem IT.first (w : World) (s : ByteArray) : IT w s [] ((w.alloc (.cells #[.string s] 9)).alloc (.cells #[.slice none 0 0] 23)) := by
  have hs : (w.alloc (.cells #[.string s] 9)).heap.size = w.heap.size + 1 := by simp
  refine ⟨⟨belA (belA (Below.refl _ _) _) _, by omega, by simp, none, 0, ?_, World.ownsRow_nil _ _ _ _⟩, ?_⟩
  · have h2 := heap_alloc_new (w.alloc (.cells #[.string s] 9)) (.cells #[.slice none 0 0] 23)
    rw [hs] at h2
    exact h2
  · exact ((belA (Below.refl (w.alloc (.cells #[.string s] 9)).heap.size _) _).block _ (by simp)).trans (heap_alloc_new w _)
set_option maxRecDepth 100000 in
set_option maxHeartbeats 4000000 in
theorem apart_any (T N : List UInt8) (hT : T.length ≤ 100000000) (hN : N.length ≤ 100000000) (w : World) :
    Calls Try.prog 16 #[.string (bsB T), .string (bsB N)] w (IntsPost (apL N.length (pls idL T N)) w) := by
  have hlen := plU_len idL T N
  have hle := pls_le idL T N
  have HA : Hid (Calls Try.prog 22 #[.string (bsB T), .string (bsB N), .func (.func 20) #[] #[], .func (.func 26) #[] #[.pointer (some ⟨w.heap.size + 1, 0, none⟩), .pointer (some ⟨w.heap.size, 0, none⟩)]] ((w.alloc (.cells #[.string (bsB N)] 9)).alloc (.cells #[.slice none 0 0] 23)) fun e w' => e = .returned (.tuple #[]) ∧ IT w (bsB N) (apL N.length (pls idL T N)) w') := Lib.hid <| by
    refine (eachPlace_any idL 20 26 #[.pointer (some ⟨w.heap.size + 1, 0, none⟩), .pointer (some ⟨w.heap.size, 0, none⟩)] cf_itself (cf_apart _ _) itself_any T N (by omega) (by omega) _ (fun ds W => IT w (bsB N) (apL N.length ds) W) (OwI (w.heap.size + 1)) (fun _ _ => False) ⟨fun _ _ k h ho => (h.1.lt ho).2, fun _ _ _ h hb => h.past hb⟩ (IT.first w (bsB N)) ?_).mono fun e w' h => ⟨h.1, h.2.elim id fun ⟨_, _, _, h⟩ => h.elim⟩
    intro ds p W ⟨t, ht⟩ hK
    have hp := hle p (by rw [ht]; simp)
    have hds : ∀ x ∈ ds, x ≤ T.length := fun x hx => hle x (by rw [ht]; simp [hx])
    have hal := apL_le N.length ds
    refine (apartC_any w N p (by omega) (apL N.length ds) (by rw [ht] at hlen; simp at hlen; omega) (fun x hx => by have := hds x (apL_mem _ _ x hx); omega) W hK).mono fun e w' h => ⟨true, h.1, fun _ => ?_, fun h => (by cases h), h.2.2⟩
    rw [apL_snoc]
    exact h.2.1
  have HB : Hid (∀ w', IT w (bsB N) (apL N.length (pls idL T N)) w' → ∃ A c, w'.cell? ⟨w.heap.size + 1, 0, none⟩ = some (.slice A (apL N.length (pls idL T N)).length c) ∧ w'.ownsRow w.heap.size 3 1 (.slice A (apL N.length (pls idL T N)).length c) (apL N.length (pls idL T N)).length (intV (apL N.length (pls idL T N)))) := Lib.hid fun w' h => h.1.last
  clear hlen hle
  unfold IntsPost
  generalize apL N.length (pls idL T N) = pl at *
  generalize pl.length = n at *
  generalize intV pl = os at *
  generalize bsB T = sT at *
  generalize bsB N = sN at *
  go_enter Try.func16, Try.ntmps16
  go_wp2_with (go_at_call 22; (with_reducible refine HA.out.mono ?_); rintro e w3 ⟨rfl, h3⟩; obtain ⟨A, c, c3, ho3⟩ := HB.out w3 h3; have HO := Lib.hid ho3; have HL := Lib.hid h3.1.1; clear ho3 h3)
  go_ret
  exact ⟨A, c, rfl, HO.out, HL.out⟩

end Go.Proofs.Ytmkgjfinmojjnaa
