/- Both stores side by side; does, made, awake. -/
import Derived.Test.YtnkdbpbfapdfeaaDq
namespace Go.Proofs.Ytnkdbpbfapdfeaa
open Go.RowKit

theorem heap_one {w : World} {b : Nat} {c1 c2 : Array Value} {t1 t2 : TypeId} (h1 : w.heap[b]? = some (.cells c1 t1 (0, 0))) (h2 : w.heap[b]? = some (.cells c2 t2 (0, 0))) : t1 = t2 := by
  rw [h1] at h2
  injection h2 with h2
  injection h2
/-- Both stores. -/
structure T0 (w0 w : World) (D M : Nat) (v : Value) (most : Int) (P : List (Int × Int)) (L : List Tr) (next : Int) : Prop where
  s : PM w D v most P
  m : ∃ u, QM w M u most next L
  d0 : w0.heap.size ≤ D
  m0 : w0.heap.size ≤ M
  v0 : ∀ g, v.ownBlock = some g → w0.heap.size ≤ g
  b : Below w0.heap.size w0 w
theorem T0.ne {w0 w : World} {D M : Nat} {v : Value} {most : Int} {P : List (Int × Int)} {L : List Tr} {next : Int} (h : T0 w0 w D M v most P L next) : D ≠ M := fun e => by
  obtain ⟨u, hq⟩ := h.m
  subst e
  exact absurd (heap_one h.s.d hq.d) (by decide)
theorem T0.vm {w0 w : World} {D M : Nat} {v : Value} {most : Int} {P : List (Int × Int)} {L : List Tr} {next : Int} (h : T0 w0 w D M v most P L next) : ∀ g, v.ownBlock = some g → g ≠ M := fun g hg e => by
  obtain ⟨u, hq⟩ := h.m
  obtain ⟨cur, hc⟩ := (h.s.row.lt g hg).2
  subst e
  exact absurd (heap_one hc hq.d) (by decide)
theorem T0.past {w0 w w' : World} {D M : Nat} {v : Value} {most : Int} {P : List (Int × Int)} {L : List Tr} {next : Int} (h : T0 w0 w D M v most P L next) (hb : Below w.heap.size w w') : T0 w0 w' D M v most P L next :=
  ⟨h.s.past hb, h.m.imp fun _ hq => hq.past hb, h.d0, h.m0, h.v0, bel0 h.b hb⟩
theorem T0.stepS {w0 w w' : World} {D M : Nat} {v : Value} {most : Int} {P P' : List (Int × Int)} {L : List Tr} {next : Int} (h : T0 w0 w D M v most P L next) (hp : PPost w D v most P' w') : ∃ v', T0 w0 w' D M v' most P' L next := by
  obtain ⟨v', h1, h2, h3⟩ := hp
  obtain ⟨u, hq⟩ := h.m
  refine ⟨v', h1, ⟨u, hq.kept h2 (fun e => ?_) (fun b cur hh e => ?_)⟩, h.d0, h.m0, fun g hg => ?_, h2.to_below h.b fun i hi => ?_⟩
  · rcases e with e | e
    · exact h.ne e.symm
    · exact h.vm M e.symm rfl
  · rcases e with e | e
    · subst e
      exact absurd (heap_one h.s.d hh) (by decide)
    · obtain ⟨cur', hc⟩ := (h.s.row.lt b e.symm).2
      exact absurd (heap_one hc hh) (by decide)
  · rcases h3 with e | e | ⟨g', e, hge⟩
    · exact h.v0 g (e ▸ hg)
    · rw [e] at hg; cases hg
    · rw [e] at hg
      injection hg with hg
      have := h.b.size
      omega
  · rcases hi with rfl | e
    · exact h.d0
    · exact h.v0 i e.symm
theorem T0.stepM {w0 w w' : World} {D M : Nat} {v u : Value} {most : Int} {P : List (Int × Int)} {L L' : List Tr} {next next' : Int} (h : T0 w0 w D M v most P L next) (_ : QM w M u most next L) (hp : QPost w M most next' L' w') : T0 w0 w' D M v most P L' next' := by
  obtain ⟨v', h1, h2⟩ := hp
  exact ⟨h.s.kept h2 (fun e => h.ne e) (fun g hg e => h.vm g hg e), ⟨v', h1⟩, h.d0, h.m0, h.v0, h2.to_below h.b fun i hi => by rw [hi]; exact h.m0⟩
/-- Both stores, one of which is the other's. -/
def T2 (w0 w : World) (D M : Nat) (most : Int) (P : List (Int × Int)) (L : List Tr) (next : Nat) : Prop :=
  (∃ v, T0 w0 w D M v most P L next) ∧ Rel P L next ∧ NC P ∧ (P.length : Int) ≤ most
theorem T2.past {w0 w w' : World} {D M : Nat} {most : Int} {P : List (Int × Int)} {L : List Tr} {next : Nat} (h : T2 w0 w D M most P L next) (hb : Below w.heap.size w w') : T2 w0 w' D M most P L next :=
  ⟨h.1.imp fun _ ht => ht.past hb, h.2⟩
/-- The sixth of an operation's cells. -/
abbrev OpA (mv : Bool) (r c k a n : Int) : Value := .agg #[.bool mv, .int .i64 r, .int .i64 c, .int .i64 k, .int .i64 a, .int .i64 n]
def DPost (w0 : World) (D M : Nat) (most : Int) (next : Nat) (e : Ending) (w' : World) : Prop :=
  e = .returned (.tuple #[]) ∧ ∃ P L next', T2 w0 w' D M most P L next' ∧ next' ≤ next + 1
set_option maxRecDepth 100000 in
set_option maxHeartbeats 8000000 in
theorem does_shift (w0 w : World) (D M : Nat) (most : Int) (P : List (Int × Int)) (L : List Tr) (next : Nat) (h : T2 w0 w D M most P L next) (hm : most ≤ 100) (r c k a n : Int) :
    Calls Try.prog 10 #[.pointer (some ⟨D, 0, none⟩), .pointer (some ⟨M, 0, none⟩), OpA true r c k a n] w (DPost w0 D M most next) := by
  obtain ⟨⟨v, ht⟩, hrel, hnc, hlen⟩ := h
  have hLl := hrel.len
  have ht1 := ht.past (belA (Below.refl _ _) (.cells #[.bool true, .int .i64 r, .int .i64 c, .int .i64 k, .int .i64 a, .int .i64 n] 34))
  have HS := Lib.hid (shift_any ht1.s k a n (by omega))
  have HT := Lib.hid ht1
  have hs2 : w.heap.size < (w.alloc (.cells #[.bool true, .int .i64 r, .int .i64 c, .int .i64 k, .int .i64 a, .int .i64 n] 34)).heap.size := by simp
  have HBX : Hid (∀ w2, PPost (w.alloc (.cells #[.bool true, .int .i64 r, .int .i64 c, .int .i64 k, .int .i64 a, .int .i64 n] 34)) D v most (shiftL k a n P) w2 → (w2.cell? ⟨w.heap.size, 3, none⟩ = some (.int .i64 k) ∧ w2.cell? ⟨w.heap.size, 4, none⟩ = some (.int .i64 a) ∧ w2.cell? ⟨w.heap.size, 5, none⟩ = some (.int .i64 n) ∧ w.heap.size < w2.heap.size) ∧ ∃ u v', T0 w0 w2 D M v' most (shiftL k a n P) L next ∧ QM w2 M u most next L) := Lib.hid fun w2 hp => by
    obtain ⟨v', ht2⟩ := HT.out.stepS hp
    obtain ⟨v'', _, hk, _⟩ := hp
    have g : w2.heap[w.heap.size]? = _ := (hk.block w.heap.size hs2 (fun e => by
      rcases e with e | e
      · have := ht.s.lt; omega
      · have := (ht.s.row.lt _ e.symm).1; omega)).trans (heap_alloc_new w _)
    obtain ⟨u, hq⟩ := ht2.m
    exact ⟨⟨cell_of_row _ _ 3 _ _ _ g, cell_of_row _ _ 4 _ _ _ g, cell_of_row _ _ 5 _ _ _ g, (Array.getElem?_eq_some_iff.1 g).1⟩, u, v', ht2, hq⟩
  have HR := Lib.hid (fun w2 u (hq : QM w2 M u most next L) => rshift_any hq k a n (by omega))
  have HEND : Hid (∀ w2 w3 v' u, T0 w0 w2 D M v' most (shiftL k a n P) L next → QM w2 M u most next L → QPost w2 M most next (shiftR k a n L) w3 → ∃ P L next', T2 w0 w3 D M most P L next' ∧ next' ≤ next + 1) := Lib.hid fun w2 w3 v' u h2 hq hp =>
    ⟨shiftL k a n P, shiftR k a n L, next, ⟨⟨v', h2.stepM hq hp⟩, hrel.shift k a n hnc, hnc.shift k a n, by have := shiftL_len k a n P; omega⟩, Nat.le_succ _⟩
  clear ht hrel hnc hlen hLl ht1
  unfold DPost
  go_enter Try.func10, Try.ntmps10
  go_wp2_with (first
    | (go_at_call 25; (with_reducible refine (HS.out).mono ?_); rintro e w2 ⟨rfl, hp⟩; obtain ⟨⟨x0, x1, x2, xl⟩, u2, v2, ht2, hq2⟩ := HBX.out _ hp; have HT2 := Lib.hid ht2; have HQ2 := Lib.hid hq2; clear hp ht2 hq2)
    | (go_at_call 26; (with_reducible refine (HR.out _ _ HQ2.out).mono ?_); rintro e w3 ⟨rfl, hp⟩; have HE := Lib.hid (HEND.out _ _ _ _ HT2.out HQ2.out hp); clear hp))
  (try simp only [Exit.inBlock, Exit.then])
  exact bodyPost_ret (results_none rfl _ _ _) rfl ⟨rfl, HE.out⟩
set_option maxRecDepth 100000 in
set_option maxHeartbeats 8000000 in
theorem does_add (w0 w : World) (D M : Nat) (most : Int) (P : List (Int × Int)) (L : List Tr) (next : Nat) (h : T2 w0 w D M most P L next) (hm1 : 1 ≤ most) (hm : most ≤ 100) (hn : next ≤ 1000) (r c k a n : Int) :
    Calls Try.prog 10 #[.pointer (some ⟨D, 0, none⟩), .pointer (some ⟨M, 0, none⟩), OpA false r c k a n] w (DPost w0 D M most next) := by
  obtain ⟨⟨v, ht⟩, hrel, hnc, hlen⟩ := h
  have hLl := hrel.len
  have ht1 := ht.past (belA (Below.refl _ _) (.cells #[.bool false, .int .i64 r, .int .i64 c, .int .i64 k, .int .i64 a, .int .i64 n] 34))
  have HT := Lib.hid ht1
  have hs2 : w.heap.size < (w.alloc (.cells #[.bool false, .int .i64 r, .int .i64 c, .int .i64 k, .int .i64 a, .int .i64 n] 34)).heap.size := by simp
  have HBX : Hid (∀ w2 P', PPost (w.alloc (.cells #[.bool false, .int .i64 r, .int .i64 c, .int .i64 k, .int .i64 a, .int .i64 n] 34)) D v most P' w2 → (w2.cell? ⟨w.heap.size, 1, none⟩ = some (.int .i64 r) ∧ w2.cell? ⟨w.heap.size, 2, none⟩ = some (.int .i64 c) ∧ w.heap.size < w2.heap.size) ∧ ∃ u v', T0 w0 w2 D M v' most P' L next ∧ QM w2 M u most next L) := Lib.hid fun w2 P' hp => by
    obtain ⟨v', ht2⟩ := HT.out.stepS hp
    obtain ⟨v'', _, hk, _⟩ := hp
    have g : w2.heap[w.heap.size]? = _ := (hk.block w.heap.size hs2 (fun e => by
      rcases e with e | e
      · have := ht.s.lt; omega
      · have := (ht.s.row.lt _ e.symm).1; omega)).trans (heap_alloc_new w _)
    obtain ⟨u, hq⟩ := ht2.m
    exact ⟨⟨cell_of_row _ _ 1 _ _ _ g, cell_of_row _ _ 2 _ _ _ g, (Array.getElem?_eq_some_iff.1 g).1⟩, u, v', ht2, hq⟩
  cases hok : okP r c with
  | true =>
    have HS := Lib.hid (add_any ht1.s r c hok hm1 (by omega))
    have HR := Lib.hid (fun w2 u (hq : QM w2 M u most next L) => radd_any hq r c hok (by omega) (by omega))
    have HEND : Hid (∀ w2 w3 v' u L', T0 w0 w2 D M v' most (addL most P (r, c)) L next → QM w2 M u most next L → RAdd most next L (r, c) L' → QPost w2 M most ((next : Int) + 1) L' w3 → ∃ P L next', T2 w0 w3 D M most P L next' ∧ next' ≤ next + 1) := Lib.hid fun w2 w3 v' u L' h2 hq hra hp =>
      ⟨addL most P (r, c), L', next + 1, ⟨⟨v', h2.stepM hq (by simpa using hp)⟩, hrel.add hra, hnc.add hok, addL_len hlen⟩, Nat.le_refl _⟩
    clear ht hrel hnc hlen hLl ht1 hok
    unfold DPost
    go_enter Try.func10, Try.ntmps10
    go_wp2_with (first
      | (go_at_call 22; (with_reducible refine (HS.out).mono ?_); rintro e w2 ⟨rfl, hp⟩; obtain ⟨⟨x0, x1, xl⟩, u2, v2, ht2, hq2⟩ := HBX.out _ _ hp; have HT2 := Lib.hid ht2; have HQ2 := Lib.hid hq2; clear hp ht2 hq2)
      | (go_at_call 27; (with_reducible refine (HR.out _ _ HQ2.out).mono ?_); rintro e w3 ⟨rfl, L', hra, hp⟩; have HE := Lib.hid (HEND.out _ _ _ _ _ HT2.out HQ2.out hra hp); clear hp hra))
    go_end0
    exact ⟨rfl, HE.out⟩
  | false =>
    have HS := Lib.hid (fun W => add_wrong W D r c hok)
    have HR := Lib.hid (fun W => radd_wrong W M r c hok)
    have HBY : Hid (∀ w2, Below (w.alloc (.cells #[.bool false, .int .i64 r, .int .i64 c, .int .i64 k, .int .i64 a, .int .i64 n] 34)).heap.size (w.alloc (.cells #[.bool false, .int .i64 r, .int .i64 c, .int .i64 k, .int .i64 a, .int .i64 n] 34)) w2 → (w2.cell? ⟨w.heap.size, 1, none⟩ = some (.int .i64 r) ∧ w2.cell? ⟨w.heap.size, 2, none⟩ = some (.int .i64 c) ∧ w.heap.size < w2.heap.size) ∧ ∃ v', T0 w0 w2 D M v' most P L next) := Lib.hid fun w2 hb => by
      obtain ⟨h1, u, v', h2, _⟩ := HBX.out _ _ (PPost.same HT.out.s hb)
      exact ⟨h1, v', h2⟩
    have HEND : Hid (∀ w2 w3 v', T0 w0 w2 D M v' most P L next → Below w2.heap.size w2 w3 → ∃ P L next', T2 w0 w3 D M most P L next' ∧ next' ≤ next + 1) := Lib.hid fun w2 w3 v' h2 hb =>
      ⟨P, L, next, ⟨⟨v', h2.past hb⟩, hrel, hnc, hlen⟩, Nat.le_succ _⟩
    clear ht hrel hnc hlen hLl ht1 hok HBX
    unfold DPost
    go_enter Try.func10, Try.ntmps10
    go_wp2_with (first
      | (go_at_call 22; (with_reducible refine (HS.out _).mono ?_); rintro e w2 ⟨rfl, hb⟩; obtain ⟨⟨x0, x1, xl⟩, v2, ht2⟩ := HBY.out _ hb; have HT2 := Lib.hid ht2; clear hb ht2)
      | (go_at_call 27; (with_reducible refine (HR.out _).mono ?_); rintro e w3 ⟨rfl, hb⟩; have HE := Lib.hid (HEND.out _ _ _ HT2.out hb); clear hb))
    go_end0
    exact ⟨rfl, HE.out⟩
theorem does_any (w0 w : World) (D M : Nat) (most : Int) (P : List (Int × Int)) (L : List Tr) (next : Nat) (h : T2 w0 w D M most P L next) (hm1 : 1 ≤ most) (hm : most ≤ 100) (hn : next ≤ 1000) (mv : Bool) (r c k a n : Int) :
    Calls Try.prog 10 #[.pointer (some ⟨D, 0, none⟩), .pointer (some ⟨M, 0, none⟩), OpA mv r c k a n] w (DPost w0 D M most next) := by
  cases mv with
  | true => exact does_shift w0 w D M most P L next h hm r c k a n
  | false => exact does_add w0 w D M most P L next h hm1 hm hn r c k a n
set_option maxRecDepth 100000 in
set_option maxHeartbeats 8000000 in
theorem made_any (w0 w : World) (hb : Below w0.heap.size w0 w) (z : Int) (hz : 0 ≤ z ∧ z < 256) (mz : Int) (hmz : mz = z % 30 + 1) :
    Calls Try.prog 9 #[.int .u8 z] w fun e w' => ∃ D M, e = .returned (.tuple #[.pointer (some ⟨D, 0, none⟩), .pointer (some ⟨M, 0, none⟩)]) ∧ T2 w0 w' D M mz [] [] 0 := by
  have h1 : z % 30 < 30 := Int.emod_lt_of_pos _ (by decide)
  have h2 : 0 ≤ z % 30 := Int.emod_nonneg _ (by decide)
  have ht : z.tmod 30 = z % 30 := Int.tmod_eq_emod_of_nonneg hz.1
  have HN := Lib.hid (fun W => new_any mz (by omega) (by omega) W)
  have HB := Lib.hid hb
  have hw64 : IntKind.i64.wrap (z.tmod 30) = z.tmod 30 := by rw [ht, IntKind.wrap_i64]; omega
  have hwp : IntKind.i64.wrap (1 + z.tmod 30) = mz := by rw [ht, IntKind.wrap_i64]; omega
  have HF : Hid (∀ w1, Below w.heap.size w w1 → PM w1 w.heap.size (.slice none 0 0) mz [] → T2 w0 (w1.alloc (.cells #[.int .i64 mz, .int .i64 0, .slice none 0 0] 38)) w.heap.size w1.heap.size mz [] [] 0) := Lib.hid fun w1 hb1 hp =>
    ⟨⟨.slice none 0 0, { s := hp.past (belA (Below.refl _ _) _), m := ⟨.slice none 0 0, heap_alloc_new w1 _, none, 0, rfl, Nat.le_refl _, .inl ⟨rfl, rfl⟩, fun e => absurd rfl e⟩, d0 := HB.out.size, m0 := Nat.le_trans HB.out.size hb1.size, v0 := fun g hg => (by cases hg), b := bel0 HB.out (belA hb1 _) }⟩, Rel.nil, (fun p hp => by cases hp), (by show ((0 : Nat) : Int) ≤ mz; omega)⟩
  clear hb hz ht h1 h2 hmz
  go_enter Try.func9, Try.ntmps9
  go_wp2_with (go_at_call 24; (with_reducible refine (HN.out _).mono ?_); rintro e w1 ⟨rfl, hb1, hp1⟩; have HE := Lib.hid (HF.out _ hb1 hp1); clear hb1 hp1)
  go_ret2
  exact ⟨_, _, rfl, HE.out⟩

open Go.Sort in
theorem srt_pw (l : List (Int × Int)) : (srt l).Pairwise (fun a b => lessB b.1 b.2 a.1 a.2 = false) := by
  have hq : (srt l).Pairwise fun x y => (!(ltOf posC) y x) = true := List.pairwise_mergeSort (fun a b c h1 h2 => by
    rw [lt_posC] at *
    simp only [lessB, Bool.not_eq_true', decide_eq_false_iff_not] at *
    omega) (fun a b => by
    rw [lt_posC, lt_posC]
    simp only [lessB, Bool.or_eq_true, Bool.not_eq_true', decide_eq_false_iff_not]
    omega) _
  refine hq.imp fun {a b} h => ?_
  rw [lt_posC] at h
  simpa using h
theorem srt_two : srt (addL 2 (addL 2 (addL 2 [] (5, 0)) (3, 0)) (4, 0)) = [(3, 0), (4, 0)] := by
  rw [show addL 2 (addL 2 (addL 2 [] (5, 0)) (3, 0)) (4, 0) = [(3, 0), (4, 0)] by decide]
  exact sorted_one _ _ (List.mergeSort_perm _ _) (srt_pw _) (by decide)
theorem rpl_two (W : World) : RPl (W.alloc (.cells #[.int .i64 3, .int .i64 0, .int .i64 4, .int .i64 0] 30)) (W.alloc (.cells #[.int .i64 3, .int .i64 0, .int .i64 4, .int .i64 0] 30)).heap.size (some ⟨W.heap.size, 0, none⟩) [(3, 0), (4, 0)] := fun _ => by
  have g := heap_alloc_new W (.cells #[.int .i64 3, .int .i64 0, .int .i64 4, .int .i64 0] 30)
  refine ⟨W.heap.size, 0, rfl, by simp, fun k hk => ?_⟩
  match k, hk with
  | 0, _ => exact ⟨cell_of_row _ _ 0 _ _ _ g, cell_of_row _ _ 1 _ _ _ g⟩
  | 1, _ => exact ⟨cell_of_row _ _ 2 _ _ _ g, cell_of_row _ _ 3 _ _ _ g⟩
set_option maxRecDepth 100000 in
set_option maxHeartbeats 8000000 in
theorem awake_any (w : World) : Calls Try.prog 8 #[] w fun e w' => e = .returned (.bool true) ∧ Below w.heap.size w w' := by
  have HN := Lib.hid (fun W => new_any 2 (by omega) (by omega) W)
  have HA1 : Hid (∀ W v, Below w.heap.size w W → PM W w.heap.size v 2 [] → Calls Try.prog 22 #[.pointer (some ⟨w.heap.size, 0, none⟩), .agg #[.int .i64 5, .int .i64 0]] W fun e w' => e = .returned (.tuple #[]) ∧ PPost W w.heap.size v 2 (addL 2 [] (5, 0)) w') := Lib.hid fun W v _ h => add_any h 5 0 (by decide) (by decide) (by decide)
  have HA2 := Lib.hid (fun W v (h : PM W w.heap.size v 2 (addL 2 [] (5, 0))) => add_any h 3 0 (by decide) (by decide) (by decide))
  have HA3 := Lib.hid (fun W v (h : PM W w.heap.size v 2 (addL 2 (addL 2 [] (5, 0)) (3, 0))) => add_any h 4 0 (by decide) (by decide) (by decide))
  have HL := Lib.hid (fun W v (h : PM W w.heap.size v 2 (addL 2 (addL 2 (addL 2 [] (5, 0)) (3, 0)) (4, 0))) => list_any h (by decide))
  rw [srt_two, show (addL 2 (addL 2 (addL 2 [] (5, 0)) (3, 0)) (4, 0)).length = 2 by decide] at HL
  have HK : Hid (∀ W W' v P, Below w.heap.size w W → PM W w.heap.size v 2 P → (∀ g, v.ownBlock = some g → w.heap.size ≤ g) → ∀ P', PPost W w.heap.size v 2 P' W' → ∃ v', Below w.heap.size w W' ∧ PM W' w.heap.size v' 2 P' ∧ (∀ g, v'.ownBlock = some g → w.heap.size ≤ g)) := Lib.hid fun W W' v P hb hp hv P' ⟨v', h1, h2, h3⟩ => by
    refine ⟨v', h2.to_below hb fun i hi => ?_, h1, fun g hg => ?_⟩
    · rcases hi with rfl | e
      · exact Nat.le_refl _
      · exact hv i e.symm
    · rcases h3 with e | e | ⟨g', e, hge⟩
      · exact hv g (e ▸ hg)
      · rw [e] at hg; cases hg
      · rw [e] at hg
        injection hg with hg
        have := hb.size
        omega
  have HS : Hid (∀ A c W, RPl W W.heap.size A [(3, 0), (4, 0)] → Calls Try.prog 12 #[.slice A 2 c, .slice (some ⟨W.heap.size, 0, none⟩) 2 2] (W.alloc (.cells #[.int .i64 3, .int .i64 0, .int .i64 4, .int .i64 0] 30)) fun e w' => e = .returned (.bool true) ∧ Below (W.alloc (.cells #[.int .i64 3, .int .i64 0, .int .i64 4, .int .i64 0] 30)).heap.size (W.alloc (.cells #[.int .i64 3, .int .i64 0, .int .i64 4, .int .i64 0] 30)) w') := Lib.hid fun A c W h =>
    samePlaces_any A _ [(3, 0), (4, 0)] 2 2 c 2 rfl rfl (by omega) _ (h.past (belA (Below.refl _ _) _)) (rpl_two W)
  go_enter Try.func8, Try.ntmps8
  go_wp2_with (first
    | (go_at_call 24; (with_reducible refine (HN.out _).mono ?_); rintro e w1 ⟨rfl, hb1, hp1⟩; have HB1 := Lib.hid hb1; have HP1 := Lib.hid hp1; clear hb1 hp1)
    | (go_at_call 22; (with_reducible refine (HA1.out _ _ HB1.out HP1.out).mono ?_); rintro e w2 ⟨rfl, hp⟩; obtain ⟨v2, hb, hm, hv⟩ := HK.out _ _ _ _ HB1.out HP1.out (fun g hg => (by cases hg)) _ hp; have HB2 := Lib.hid hb; have HP2 := Lib.hid hm; have HV2 := Lib.hid hv; clear hb hm hv hp)
    | (go_at_call 22; (with_reducible refine (HA2.out _ _ HP2.out).mono ?_); rintro e w3 ⟨rfl, hp⟩; obtain ⟨v3, hb, hm, hv⟩ := HK.out _ _ _ _ HB2.out HP2.out HV2.out _ hp; have HB3 := Lib.hid hb; have HP3 := Lib.hid hm; have HV3 := Lib.hid hv; clear hb hm hv hp)
    | (go_at_call 22; (with_reducible refine (HA3.out _ _ HP3.out).mono ?_); rintro e w4 ⟨rfl, hp⟩; obtain ⟨v4, hb, hm, hv⟩ := HK.out _ _ _ _ HB3.out HP3.out HV3.out _ hp; have HB4 := Lib.hid hb; have HP4 := Lib.hid hm; have HV4 := Lib.hid hv; clear hb hm hv hp)
    | (go_at_call 13; (with_reducible refine (HL.out _ _ HP4.out).mono ?_); rintro e w5 ⟨A5, c5, rfl, hb5, hr5⟩; have HB5 := Lib.hid (bel0 HB4.out hb5); have HR5 := Lib.hid hr5; clear hb5 hr5)
    | (go_at_call 12; (with_reducible refine (HS.out _ _ _ HR5.out).mono ?_); rintro e w6 ⟨rfl, hb6⟩; have HB6 := Lib.hid (bel0 (belA HB5.out _) hb6); clear hb6))
  go_ret
  exact ⟨rfl, HB6.out⟩
end Go.Proofs.Ytnkdbpbfapdfeaa
