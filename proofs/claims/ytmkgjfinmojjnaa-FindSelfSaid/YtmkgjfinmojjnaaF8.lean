/- The walks of Next and Ahead. -/
import Derived.Test.YtmkgjfinmojjnaaF7
namespace Go.Proofs.Ytmkgjfinmojjnaa
open Go.RowKit

theorem belN' (w : World) (n : Nat) : Below w.heap.size w (w.drewN n) := ⟨rfl, rfl, rfl, Nat.le_refl _, fun _ _ => rfl⟩
/-- Three own boxes: from where, a place, whether there is one. -/
structure N3 (w0 : World) (f l : Int) (b : Bool) (W : World) : Prop where
  below : Below w0.heap.size w0 W
  b0 : W.heap[w0.heap.size]? = some (.cells #[.int .i64 f] 3 (0, 0))
  b1 : W.heap[w0.heap.size + 1]? = some (.cells #[.int .i64 l] 3 (0, 0))
  b2 : W.heap[w0.heap.size + 2]? = some (.cells #[.bool b] 4 (0, 0))
theorem N3.lt {w0 W : World} {f l : Int} {b : Bool} (h : N3 w0 f l b W) : w0.heap.size + 2 < W.heap.size := (Array.getElem?_eq_some_iff.1 h.b2).1
theorem N3.past {w0 W W' : World} {f l : Int} {b : Bool} (h : N3 w0 f l b W) (hb : Below W.heap.size W W') : N3 w0 f l b W' :=
  have := h.lt
  ⟨bel0 h.below hb, (hb.block _ (by omega)).trans h.b0, (hb.block _ (by omega)).trans h.b1, (hb.block _ (by omega)).trans h.b2⟩
theorem N3.cells {w0 W : World} {f l : Int} {b : Bool} (h : N3 w0 f l b W) : W.cell? ⟨w0.heap.size, 0, none⟩ = some (.int .i64 f) ∧ (W.cell? ⟨w0.heap.size + 1, 0, none⟩ = some (.int .i64 l) ∧ W.frozen? ⟨w0.heap.size + 1, 0, none⟩ = false) ∧ (W.cell? ⟨w0.heap.size + 2, 0, none⟩ = some (.bool b) ∧ W.frozen? ⟨w0.heap.size + 2, 0, none⟩ = false) :=
  ⟨row_cell h.b0 0 _ rfl, ⟨row_cell h.b1 0 _ rfl, by simp [World.frozen?, h.b1]⟩, ⟨row_cell h.b2 0 _ rfl, by simp [World.frozen?, h.b2]⟩⟩
theorem N3.set {w0 W : World} {f l l' : Int} {b b' : Bool} (h : N3 w0 f l b W) : N3 w0 f l' b' ((W.setCell ⟨w0.heap.size + 1, 0, none⟩ (.int .i64 l')).setCell ⟨w0.heap.size + 2, 0, none⟩ (.bool b')) := by
  refine ⟨(h.below.setCell (p := ⟨w0.heap.size + 1, 0, none⟩) (by show w0.heap.size ≤ w0.heap.size + 1; omega) _).setCell (p := ⟨w0.heap.size + 2, 0, none⟩) (by show w0.heap.size ≤ w0.heap.size + 2; omega) _, ?_, ?_, ?_⟩
  · exact (Below.heap_setCell _ _ _ _ (by show w0.heap.size ≠ w0.heap.size + 2; omega)).trans ((Below.heap_setCell _ _ _ _ (by show w0.heap.size ≠ w0.heap.size + 1; omega)).trans h.b0)
  · refine (Below.heap_setCell _ _ _ _ (by show w0.heap.size + 1 ≠ w0.heap.size + 2; omega)).trans ?_
    rw [row_set h.b1]
    rfl
  · rw [row_set ((Below.heap_setCell _ _ _ _ (by show w0.heap.size + 2 ≠ w0.heap.size + 1; omega)).trans h.b2)]
    rfl
theorem N3.fro {w0 W : World} (v u : Value) : FrO (fun _ k => w0.heap.size ≤ k ∧ k ≤ w0.heap.size + 2) W ((W.setCell ⟨w0.heap.size + 1, 0, none⟩ v).setCell ⟨w0.heap.size + 2, 0, none⟩ u) :=
  ⟨by rw [World.size_setCell, World.size_setCell]; exact Nat.le_refl _, fun k _ hn => (Below.heap_setCell _ _ _ _ (by show k ≠ w0.heap.size + 2; omega)).trans (Below.heap_setCell _ _ _ _ (by show k ≠ w0.heap.size + 1; omega)), fun k h => .inl h⟩
theorem N3.first (w : World) (f : Int) : N3 w f 0 false (((w.alloc (.cells #[.int .i64 f] 3)).alloc (.cells #[.int .i64 0] 3)).alloc (.cells #[.bool false] 4)) := by
  refine ⟨belA (belA (belA (Below.refl _ _) _) _) _, ?_, ?_, ?_⟩
  · exact ((belA (belA (Below.refl (w.alloc (.cells #[.int .i64 f] 3)).heap.size _) _) _).block _ (by simp)).trans (heap_alloc_new w _)
  · have h2 := heap_alloc_new (w.alloc (.cells #[.int .i64 f] 3)) (.cells #[.int .i64 0] 3)
    rw [show (w.alloc (.cells #[.int .i64 f] 3)).heap.size = w.heap.size + 1 by simp] at h2
    exact ((belA (Below.refl ((w.alloc (.cells #[.int .i64 f] 3)).alloc (.cells #[.int .i64 0] 3)).heap.size _) _).block _ (by simp)).trans h2
  · have h2 := heap_alloc_new ((w.alloc (.cells #[.int .i64 f] 3)).alloc (.cells #[.int .i64 0] 3)) (.cells #[.bool false] 4)
    rw [show ((w.alloc (.cells #[.int .i64 f] 3)).alloc (.cells #[.int .i64 0] 3)).heap.size = w.heap.size + 2 by simp] at h2
    exact h2
set_option maxRecDepth 100000 in
theorem nextC_any (w0 : World) (p f : Nat) (l : Int) (b : Bool) (hp : p + f ≤ 1000000000) (W : World) (h : N3 w0 f l b W) :
    Calls Try.prog 24 #[.int .i64 p, .pointer (some ⟨w0.heap.size, 0, none⟩), .pointer (some ⟨w0.heap.size + 1, 0, none⟩), .pointer (some ⟨w0.heap.size + 2, 0, none⟩)] W fun e w' => e = .returned (.bool false) ∧ (W.setCell ⟨w0.heap.size + 1, 0, none⟩ (.int .i64 ((f : Int) + p))).setCell ⟨w0.heap.size + 2, 0, none⟩ (.bool true) = w' := by
  obtain ⟨c0, ⟨c1, f1⟩, c2, f2⟩ := h.cells
  have hw1 : IntKind.i64.wrap ((f : Int) + p) = (f : Int) + p := IntWalk.i64_in _ (by omega)
  clear h
  have n1 : ((⟨w0.heap.size + 1, 0, none⟩ : Addr)).block = w0.heap.size + 1 := rfl
  go_enter Try.func24, Try.ntmps24
  go_wp2
  go_ret
  exact ⟨rfl, rfl⟩
set_option maxRecDepth 100000 in
theorem aheadC_lt (w0 : World) (p : Nat) (f l : Int) (b : Bool) (hp : (p : Int) < f) (W : World) (h : N3 w0 f l b W) :
    Calls Try.prog 25 #[.int .i64 p, .pointer (some ⟨w0.heap.size, 0, none⟩), .pointer (some ⟨w0.heap.size + 1, 0, none⟩), .pointer (some ⟨w0.heap.size + 2, 0, none⟩)] W fun e w' => e = .returned (.bool true) ∧ (W.setCell ⟨w0.heap.size + 1, 0, none⟩ (.int .i64 p)).setCell ⟨w0.heap.size + 2, 0, none⟩ (.bool true) = w' := by
  obtain ⟨c0, ⟨c1, f1⟩, c2, f2⟩ := h.cells
  have c3 := (h.set (l' := p) (b' := true)).cells.1
  clear h
  go_enter Try.func25, Try.ntmps25
  go_wp2
  go_ret
  exact ⟨rfl, rfl⟩
set_option maxRecDepth 100000 in
theorem aheadC_ge (w0 : World) (p : Nat) (f l : Int) (b : Bool) (hp : ¬ (p : Int) < f) (W : World) (h : N3 w0 f l b W) :
    Calls Try.prog 25 #[.int .i64 p, .pointer (some ⟨w0.heap.size, 0, none⟩), .pointer (some ⟨w0.heap.size + 1, 0, none⟩), .pointer (some ⟨w0.heap.size + 2, 0, none⟩)] W fun e w' => e = .returned (.bool false) ∧ W = w' := by
  obtain ⟨c0, ⟨c1, f1⟩, c2, f2⟩ := h.cells
  clear h
  go_enter Try.func25, Try.ntmps25
  go_wp2
  go_ret
  exact ⟨rfl, rfl⟩
def lastV (l : List Nat) : Int × Bool := match l.getLast? with | some p => (p, true) | none => (0, false)
theorem lastV_snoc (l : List Nat) (p : Nat) : lastV (l ++ [p]) = ((p : Int), true) := by simp [lastV]
def aheadV (f : Int) (l : List Nat) : Int × Bool := lastV (l.filter fun p => decide ((p : Int) < f))
def firstV (k : Nat) (l : List Nat) : Int × Bool := match l with | p :: _ => ((k : Int) + p, true) | [] => (0, false)
def nextV (T N : List UInt8) (f : Int) : Int × Bool := if (T.length : Int) < max f 0 then (0, false) else firstV (max f 0).toNat (pls idL (T.drop (max f 0).toNat) N)
theorem pls_pw (m : UInt8 → UInt8) (T N : List UInt8) : (pls m T N).Pairwise (· < ·) := by
  unfold pls
  split
  · exact List.Pairwise.nil
  · unfold plU
    exact List.Pairwise.filter _ List.pairwise_lt_range
set_option maxRecDepth 100000 in
set_option maxHeartbeats 4000000 in
theorem ahead_any (T N : List UInt8) (hT : T.length ≤ 100000000) (hN : N.length ≤ 100000000) (f : Int) (w : World) :
    Calls Try.prog 15 #[.string (bsB T), .string (bsB N), .int .i64 f] w fun e w' => e = .returned (.tuple #[.int .i64 (aheadV f (pls idL T N)).1, .bool (aheadV f (pls idL T N)).2]) ∧ Below w.heap.size w w' := by
  have HA : Hid (Calls Try.prog 22 #[.string (bsB T), .string (bsB N), .func (.func 20) #[] #[], .func (.func 25) #[] #[.pointer (some ⟨w.heap.size, 0, none⟩), .pointer (some ⟨w.heap.size + 1, 0, none⟩), .pointer (some ⟨w.heap.size + 1 + 1, 0, none⟩)]] (((w.alloc (.cells #[.int .i64 f] 3)).alloc (.cells #[.int .i64 0] 3)).alloc (.cells #[.bool false] 4)) fun e w' => e = .returned (.tuple #[]) ∧ N3 w f (aheadV f (pls idL T N)).1 (aheadV f (pls idL T N)).2 w') := Lib.hid <| by
    refine (eachPlace_any idL 20 25 #[.pointer (some ⟨w.heap.size, 0, none⟩), .pointer (some ⟨w.heap.size + 1, 0, none⟩), .pointer (some ⟨w.heap.size + 1 + 1, 0, none⟩)] cf_itself (cf_ahead _ _ _) itself_any T N (by omega) (by omega) _ (fun ds W => (∀ p ∈ ds, (p : Int) < f) ∧ N3 w f (lastV ds).1 (lastV ds).2 W) (fun _ k => w.heap.size ≤ k ∧ k ≤ w.heap.size + 2) (fun ds W => ∃ (d : List Nat) (p : Nat), ds = d ++ [p] ∧ (∀ p ∈ d, (p : Int) < f) ∧ ¬ (p : Int) < f ∧ N3 w f (lastV d).1 (lastV d).2 W) ⟨fun _ _ k h ho => by have := h.2.lt; omega, fun _ _ _ h hb => ⟨⟨h.1, h.2.past hb⟩, fun _ h => h⟩⟩ ⟨fun p h => by simp at h, N3.first w f⟩ ?_).mono fun e w' h => ⟨h.1, ?_⟩
    · intro ds p W _ hK
      by_cases hp : (p : Int) < f
      · refine (aheadC_lt w p f _ _ hp W hK.2).mono fun e w' h => ⟨true, h.1, fun _ => ⟨?_, ?_⟩, fun h => (by cases h), ?_⟩
        · intro q hq
          rcases List.mem_append.1 hq with hq | hq
          · exact hK.1 q hq
          · rw [List.mem_singleton.1 hq]; exact hp
        · rw [← h.2, lastV_snoc]
          exact hK.2.set
        · rw [← h.2]
          exact N3.fro _ _
      · refine (aheadC_ge w p f _ _ hp W hK.2).mono fun e w' h => ⟨false, h.1, fun h => (by cases h), fun _ => ⟨ds, p, rfl, hK.1, hp, by rw [← h.2]; exact hK.2⟩, ?_⟩
        rw [← h.2]
        exact ⟨Nat.le_refl _, fun _ _ _ => rfl, fun k h => .inl h⟩
    · rcases h.2 with hk | ⟨ds, t, hpl, d, p, rfl, hd, hp, hn⟩
      · have : (pls idL T N).filter (fun (p : Nat) => decide ((p : Int) < f)) = pls idL T N := List.filter_eq_self.2 fun a ha => decide_eq_true (hk.1 a ha)
        unfold aheadV
        rw [this]
        exact hk.2
      · have hpw := pls_pw idL T N
        rw [hpl, List.append_assoc] at hpw
        have h3 := (List.pairwise_append.1 hpw).2.1
        have h4 := List.pairwise_cons.1 h3
        have : (pls idL T N).filter (fun (p : Nat) => decide ((p : Int) < f)) = d := by
          rw [hpl, List.append_assoc, List.filter_append, List.filter_eq_self.2 (fun a ha => decide_eq_true (hd a ha))]
          have h5 : ([p] ++ t).filter (fun (p : Nat) => decide ((p : Int) < f)) = [] := by
            rw [List.filter_eq_nil_iff]
            intro a ha
            rcases List.mem_cons.1 ha with rfl | ha
            · simpa using hp
            · have := h4.1 a ha
              simp
              omega
          rw [h5, List.append_nil]
        unfold aheadV
        rw [this]
        exact hn
  generalize aheadV f (pls idL T N) = av at *
  have HB : Hid (∀ w', N3 w f av.1 av.2 w' → w'.cell? ⟨w.heap.size + 1, 0, none⟩ = some (.int .i64 av.1) ∧ w'.cell? ⟨w.heap.size + 1 + 1, 0, none⟩ = some (.bool av.2)) := Lib.hid fun w' h => ⟨h.cells.2.1.1, h.cells.2.2.1⟩
  clear hT hN
  generalize bsB T = sT at *
  generalize bsB N = sN at *
  go_enter Try.func15, Try.ntmps15
  go_wp2_with (go_at_call 22; (with_reducible refine HA.out.mono ?_); rintro e w3 ⟨rfl, h3⟩; obtain ⟨c1, c2⟩ := HB.out w3 h3; have H3 := Lib.hid h3.below; clear h3)
  have HBN := Lib.hid (fun n => bel0 H3.out (belN' w3 n))
  go_quiet (fail)
  go_wp2
  go_ret2
  exact ⟨rfl, HBN.out _⟩
theorem drop_pls (m : UInt8 → UInt8) (T N : List UInt8) (k : Nat) (hk : k ≤ T.length) : (pls m T N).filter (fun p => decide (k ≤ p)) = (pls m (T.drop k) N).map fun p => k + p := by
  have hst : ∀ a, Stands m T N (k + a) ↔ Stands m (T.drop k) N a := fun a => by
    unfold Stands mt
    rw [List.length_drop]
    constructor
    · rintro ⟨h1, h2⟩
      exact ⟨by omega, fun i hi => by rw [List.getElem?_drop, ← h2 i hi, Nat.add_assoc]⟩
    · rintro ⟨h1, h2⟩
      exact ⟨by omega, fun i hi => by rw [← h2 i hi, List.getElem?_drop, Nat.add_assoc]⟩
  unfold pls
  split
  · rfl
  · rename_i hN
    have hl := List.length_pos_iff.2 hN
    unfold plU
    rw [List.length_drop]
    rcases Nat.lt_or_ge (T.length + 1 - N.length) k with h | h
    · rw [show T.length - k + 1 - N.length = 0 by omega]
      rw [show (List.range 0).filter (fun a => decide (Stands m (T.drop k) N a)) = [] from rfl, List.map_nil, List.filter_eq_nil_iff]
      intro a ha
      have := List.mem_range.1 (List.mem_filter.1 ha).1
      simp
      omega
    · rw [show T.length + 1 - N.length = k + (T.length - k + 1 - N.length) by omega, List.range_add, List.filter_append, List.filter_append]
      have h1 : (List.filter (fun a => decide (Stands m T N a)) (List.range k)).filter (fun p => decide (k ≤ p)) = [] := by
        rw [List.filter_eq_nil_iff]
        intro a ha
        have := List.mem_range.1 (List.mem_filter.1 ha).1
        simp
        omega
      rw [h1, List.nil_append, List.filter_map, List.filter_map, List.filter_filter]
      congr 1
      apply List.filter_congr
      intro a _
      simp [hst]
theorem bs_extract (l : List UInt8) (i j : Nat) : (bsB l).extract i j = bsB ((l.drop i).take (j - i)) := by
  apply ByteArray.ext
  apply Array.toList_inj.1
  rw [ByteArray.data_extract, Array.toList_extract]
  simp [bsB, List.extract]
set_option maxRecDepth 100000 in
set_option maxHeartbeats 4000000 in
theorem next_any (T N : List UInt8) (hT : T.length ≤ 100000000) (hN : N.length ≤ 100000000) (f : Int) (w : World) :
    Calls Try.prog 14 #[.string (bsB T), .string (bsB N), .int .i64 f] w fun e w' => e = .returned (.tuple #[.int .i64 (nextV T N f).1, .bool (nextV T N f).2]) ∧ Below w.heap.size w w' := by
  have hsT : ((bsB T).size : Int) = T.length := by rw [bsB_size]
  obtain ⟨k, hk⟩ : ∃ k : Nat, max f 0 = k := ⟨(max f 0).toNat, by omega⟩
  have hmx : (if f < 0 then (0 : Int) else f) = k := by rw [← hk]; split <;> omega
  unfold nextV
  rw [hk, Int.toNat_natCast]
  by_cases hTk : (T.length : Int) < k
  · rw [if_pos hTk]
    generalize bsB T = sT at *
    generalize bsB N = sN at *
    have HB := Lib.hid (fun o => belA (Below.refl w.heap.size w) o)
    go_enter Try.func14, Try.ntmps14
    go_wp2
    go_ret2
    exact ⟨rfl, HB.out _⟩
  · rw [if_neg hTk]
    have HX : (bsB T).extract k (bsB T).size = bsB (T.drop k) := by rw [bs_extract, bsB_size, List.take_of_length_le (by simp)]
    have HA : Hid (Calls Try.prog 22 #[.string (bsB (T.drop k)), .string (bsB N), .func (.func 20) #[] #[], .func (.func 24) #[] #[.pointer (some ⟨w.heap.size, 0, none⟩), .pointer (some ⟨w.heap.size + 1, 0, none⟩), .pointer (some ⟨w.heap.size + 1 + 1, 0, none⟩)]] (((w.alloc (.cells #[.int .i64 k] 3)).alloc (.cells #[.int .i64 0] 3)).alloc (.cells #[.bool false] 4)) fun e w' => e = .returned (.tuple #[]) ∧ N3 w k (firstV k (pls idL (T.drop k) N)).1 (firstV k (pls idL (T.drop k) N)).2 w') := Lib.hid <| by
      refine (eachPlace_any idL 20 24 #[.pointer (some ⟨w.heap.size, 0, none⟩), .pointer (some ⟨w.heap.size + 1, 0, none⟩), .pointer (some ⟨w.heap.size + 1 + 1, 0, none⟩)] cf_itself (cf_next _ _ _) itself_any (T.drop k) N (by rw [List.length_drop]; omega) (by omega) _ (fun ds W => ds = [] ∧ N3 w k 0 false W) (fun _ k => w.heap.size ≤ k ∧ k ≤ w.heap.size + 2) (fun ds W => ∃ p : Nat, ds = [p] ∧ N3 w k ((k : Int) + p) true W) ⟨fun _ _ k h ho => by have := h.2.lt; omega, fun _ _ _ h hb => ⟨⟨h.1, h.2.past hb⟩, fun _ h => h⟩⟩ ⟨rfl, N3.first w k⟩ ?_).mono fun e w' h => ⟨h.1, ?_⟩
      · intro ds p W ⟨t, ht⟩ ⟨hds, hK⟩
        subst hds
        have hp : p ≤ T.length := by
          have hm : p ∈ pls idL (T.drop k) N := by rw [ht]; simp
          unfold pls at hm
          split at hm
          · simp at hm
          · have := List.mem_range.1 (List.mem_filter.1 hm).1
            rw [List.length_drop] at this
            omega
        refine (nextC_any w p k _ _ (by omega) W hK).mono fun e w' h => ⟨false, h.1, fun h => (by cases h), fun _ => ⟨p, rfl, by rw [← h.2]; exact hK.set⟩, by rw [← h.2]; exact N3.fro _ _⟩
      · rcases h.2 with hk | ⟨ds, t, hpl, p, rfl, hn⟩
        · rw [hk.1]
          exact hk.2
        · rw [hpl]
          exact hn
    generalize firstV k (pls idL (T.drop k) N) = av at *
    have HB : Hid (∀ w', N3 w k av.1 av.2 w' → w'.cell? ⟨w.heap.size + 1, 0, none⟩ = some (.int .i64 av.1) ∧ w'.cell? ⟨w.heap.size + 1 + 1, 0, none⟩ = some (.bool av.2)) := Lib.hid fun w' h => ⟨h.cells.2.1.1, h.cells.2.2.1⟩
    have hki : (k : Int) ≤ T.length := by omega
    clear hT hN
    generalize bsB (T.drop k) = sD at *
    generalize bsB T = sT at *
    generalize bsB N = sN at *
    go_enter Try.func14, Try.ntmps14
    go_wp2_with (go_at_call 22; (with_reducible refine HA.out.mono ?_); rintro e w3 ⟨rfl, h3⟩; obtain ⟨c1, c2⟩ := HB.out w3 h3; have H3 := Lib.hid h3.below; clear h3)
    have HBN := Lib.hid (fun n => bel0 H3.out (belN' w3 n))
    go_quiet (fail)
    go_wp2
    go_ret2
    exact ⟨rfl, HBN.out _⟩

end Go.Proofs.Ytmkgjfinmojjnaa
