/- Stops of the tabulator: Clear, None, Size, New; of stops that aren't there. -/
import Derived.Test.YtabipecpkbjdkaaTa
import Derived.Laws.CopyOwn
namespace Go.Proofs.Ytabipecpkbjdkaa
open Go.RowKit

theorem clear_any (s b : Nat) (l : List Bool) (x : Int) (w : World) (h : SS w s b l) :
    Calls Try.prog 13 #[.pointer (some ⟨s, 0, none⟩), .int .i64 x] w (SetPost s b (putB l x false) w) := by
  have HC : Hid (Calls Try.prog 25 #[.pointer (some ⟨s, 0, none⟩), .int .i64 x] w fun e w' => e = .returned (.bool (colB l.length x)) ∧ w = w') := Lib.hid (isColumn_any s b l x w h)
  by_cases hb : colB l.length x = true
  · obtain ⟨h0, h1⟩ := colB_yes hb
    obtain ⟨k, rfl⟩ := Int.eq_ofNat_of_zero_le h0
    have hc := h.c0
    have hx := h.cx k (by omega)
    have hf := h.fx k
    have HE : Hid (SS (w.setCell ⟨b, k, none⟩ (.bool false)) s b (putB l (k : Int) false)) := Lib.hid (by unfold putB; rw [if_pos hb, Int.toNat_natCast]; exact h.set k false)
    rw [hb] at HC
    have hi := h.hi
    clear h hb h0
    generalize putB l (k : Int) false = m at *
    generalize l[k]?.getD false = v at *
    generalize l.length = n at *
    go_enter Try.func13, Try.ntmps13
    go_wp2_with (go_at_call 25; (with_reducible refine HC.out.mono ?_); rintro e w' ⟨rfl, rfl⟩)
    go_end0
    exact ⟨rfl, HE.out, one_grown _ _ _ _⟩
  · have hb' : colB l.length x = false := by simpa using hb
    have HE : Hid (SS w s b (putB l x false)) := Lib.hid (by unfold putB; rw [if_neg (by rw [hb']; decide)]; exact h)
    rw [hb'] at HC
    clear h hb hb'
    go_enter Try.func13, Try.ntmps13
    go_wp2_with (go_at_call 25; (with_reducible refine HC.out.mono ?_); rintro e w' ⟨rfl, rfl⟩)
    go_end0
    exact ⟨rfl, HE.out, ⟨rfl, rfl, rfl, Nat.le_refl _, fun _ _ _ => rfl⟩⟩

theorem set_nil (x : Int) (w : World) : Calls Try.prog 11 #[.pointer none, .int .i64 x] w fun e w' => e = .returned (.tuple #[]) ∧ w = w' := by
  go_enter Try.func11, Try.ntmps11
  go_wp2_with (go_at_call 25; (with_reducible refine (isColumn_nil _ _).mono ?_); rintro e w' ⟨rfl, rfl⟩)
  go_end0
  exact ⟨rfl, rfl⟩
theorem clear_nil (x : Int) (w : World) : Calls Try.prog 13 #[.pointer none, .int .i64 x] w fun e w' => e = .returned (.tuple #[]) ∧ w = w' := by
  go_enter Try.func13, Try.ntmps13
  go_wp2_with (go_at_call 25; (with_reducible refine (isColumn_nil _ _).mono ?_); rintro e w' ⟨rfl, rfl⟩)
  go_end0
  exact ⟨rfl, rfl⟩
theorem none_nil (w : World) : Calls Try.prog 14 #[.pointer none] w fun e w' => e = .returned (.tuple #[]) ∧ w = w' := by
  go_enter Try.func14, Try.ntmps14
  go_wp2
  go_end0
  exact ⟨rfl, rfl⟩

theorem Try.infoBool : (Try.prog.info? 4).map (fun i => (i.zero, i.size, i.bytes)) = some (some (.bool false), 1, 1) := by kernel_rfl
theorem bv_rep (n : Nat) : bv (List.replicate n false) = (List.replicate n (Value.bool false)).toArray := by simp [bv]
theorem run_clear (W : World) (b n : Nat) (cur : Array Value) (ty : TypeId) (hb : W.heap[b]? = some (.cells cur 4 (0, 0))) (hn : cur.size = n) :
    (Builtin.clear_ #[29] ty #[.slice (some ⟨b, 0, none⟩) n n]).run Try.prog W = .ok (.tuple #[]) (W.setRow b (bv (List.replicate n false))) := by
  have hz : (Builtin.zeroCells #[Value.bool false] n).toList = List.replicate n (Value.bool false) := by
    apply List.ext_getElem?
    intro j
    by_cases hj : j < n
    · simp [Builtin.zeroCells, hj, Nat.mod_one]
    · simp [Builtin.zeroCells, hj]
  have hs := run_storeCells_from (P := Try.prog) b 4 (List.replicate n (Value.bool false)) 0 cur W hb (by simp [hn]) (fun v hv => by rw [(List.mem_replicate.1 hv).2]; rfl)
  rw [List.take_zero, List.nil_append] at hs
  rcases Nat.eq_zero_or_pos n with h0 | h0
  · subst h0
    have he : cur = #[] := Array.eq_empty_of_size_eq_zero hn
    subst he
    simp [Builtin.clear_, run_underlying Try.underlying29, bv]
    exact (setRow_self W b #[] _ _ hb).symm
  · obtain ⟨m, rfl⟩ : ∃ m, n = m + 1 := ⟨n - 1, by omega⟩
    simp [Builtin.clear_, run_underlying Try.underlying29, Try.zeroValue4, Value.cells, hz, hs, bv_rep]
theorem none_any (s b : Nat) (l : List Bool) (w : World) (h : SS w s b l) :
    Calls Try.prog 14 #[.pointer (some ⟨s, 0, none⟩)] w (SetPost s b (List.replicate l.length false) w) := by
  have hc := h.c0
  have hcl := fun ty => run_clear w b l.length (bv l) ty h.hb (by simp [bv])
  have HE : Hid (SS (w.setRow b (bv (List.replicate l.length false))) s b (List.replicate l.length false)) := Lib.hid ⟨by
      rw [setRow_other w b s _ h.ne, List.length_replicate]; exact h.hs, setRow_heap w b _ _ _ _ h.hb, by rw [List.length_replicate]; exact h.lo, by rw [List.length_replicate]; exact h.hi⟩
  have HG : Hid (w.grownBy (w.setRow b (bv (List.replicate l.length false))) (some b)) := Lib.hid ⟨rfl, rfl, rfl, by simp, fun k _ hk => setRow_other w b k _ (fun e => hk (by rw [e]))⟩
  clear h
  generalize bv (List.replicate l.length false) = r at *
  generalize List.replicate l.length false = m at *
  generalize l.length = n at *
  go_enter Try.func14, Try.ntmps14
  go_wp2
  go_end0
  exact ⟨rfl, HE.out, HG.out⟩

/-- Of so many columns, which are stops: those that were there, and of others multiples of 8. -/
def tgtB (l : List Bool) (x : Nat) : Bool := if x < l.length then l[x]?.getD false else x % 8 == 0
def resL (l : List Bool) (c : Nat) : List Bool := (List.range c).map (tgtB l)
theorem resL_len (l : List Bool) (c : Nat) : (resL l c).length = c := by simp [resL]
def rowK (l : List Bool) (c k : Nat) : List Bool := (List.range c).map fun x => decide (x < k) && tgtB l x
theorem rowK_len (l : List Bool) (c k : Nat) : (rowK l c k).length = c := by simp [rowK]
theorem rowK_start (l : List Bool) (c : Nat) : splice (List.replicate c (Value.bool false)) 0 ((l.take c).map Value.bool) = (rowK l c (min l.length c)).map Value.bool := by
  apply List.ext_getElem?
  intro j
  simp only [splice, List.take_zero, List.nil_append, rowK, List.map_map, List.getElem?_map, List.getElem?_append, List.length_map, List.length_take, List.getElem?_drop, List.getElem?_replicate, List.getElem?_take, Nat.zero_add]
  by_cases hj : j < c
  · by_cases h1 : j < l.length
    · rw [if_pos (by omega), if_pos hj, List.getElem?_range hj]
      simp [tgtB, h1]
      intro _
      omega
    · rw [if_neg (by omega), if_pos (by omega), List.getElem?_range hj]
      simp
      intro _
      omega
  · rw [if_neg (by omega), if_neg (by omega), List.getElem?_eq_none (by simpa using hj)]
    rfl
theorem rowK_set (l : List Bool) (c k : Nat) (hk : l.length ≤ k) (hc : k < c) : (rowK l c k).set k (k % 8 == 0) = rowK l c (k + 1) := by
  apply List.ext_getElem?
  intro j
  rw [List.getElem?_set]
  by_cases hj : k = j
  · subst hj
    rw [if_pos rfl, if_pos (by rw [rowK_len]; exact hc)]
    simp only [rowK, List.getElem?_map, List.getElem?_range hc, Option.map_some, tgtB, if_neg (Nat.not_lt.2 hk)]
    simp
  · rw [if_neg hj]
    simp only [rowK, List.getElem?_map]
    by_cases hjc : j < c
    · simp only [List.getElem?_range hjc, Option.map_some]
      congr 2
      by_cases h1 : j < k
      · simp [h1, Nat.lt_succ_of_lt h1]
      · simp [h1, show ¬ j < k + 1 by omega]
    · rw [List.getElem?_eq_none (by simpa using hjc)]
      rfl
theorem rowK_end (l : List Bool) (c : Nat) : rowK l c c = resL l c := by
  unfold rowK resL
  apply List.map_congr_left
  intro x hx
  simp [List.mem_range.1 hx]

/-- Stops that lie in block s, or a box of none. -/
structure ZZ (W : World) (s : Nat) (A : Option Addr) (l : List Bool) : Prop where
  hs : W.heap[s]? = some (.cells #[.slice A l.length l.length] 52 (0, 0))
  hb : 0 < l.length → ∃ b, A = some ⟨b, 0, none⟩ ∧ W.heap[b]? = some (.cells (bv l) 4 (0, 0))
  hi : l.length ≤ 1000
theorem SS.zz {W : World} {s b : Nat} {l : List Bool} (h : SS W s b l) : ZZ W s (some ⟨b, 0, none⟩) l := ⟨h.hs, fun _ => ⟨b, rfl, h.hb⟩, h.hi⟩
def SizePost (s : Nat) (l : List Bool) (w : World) (e : Ending) (w' : World) : Prop := e = .returned (.int .i64 0) ∧ ∃ b, SS w' s b l ∧ w.heap.size ≤ b ∧ w.grownBy w' (some s)
theorem mk_bools (c : Nat) (hc : c ≤ 1000) (W : World) : (Instr.makeSlice 29 (.int .i64 c) (.int .i64 c)).run Try.prog W = .ok (.slice (some ⟨W.heap.size, 0, none⟩) c c) (W.alloc (.cells (List.replicate c (Value.bool false)).toArray 4)) := by
  obtain ⟨i0, hi, hz0, hz1, hz2⟩ := info_parts Try.infoBool
  have h := run_make (P := Try.prog) W 29 4 i0 (.bool false) Try.underlying29 hi hz0 .i64 .i64 c c (by omega) (Int.le_refl _) (by rw [hz2]; omega) (by omega)
  rw [Int.toNat_natCast, hz1, Nat.mul_one] at h
  rw [h]
  congr 3
  apply Array.ext'
  rw [List.toList_toArray]
  exact toList_madeCells_one _ c

theorem size_end {w wr : World} {s n c : Nat} {A : Option Addr} {R : List Bool} (hs : w.heap[s]? = some (.cells #[.slice A n n] 52 (0, 0))) (hB : Below w.heap.size w wr) (hR : wr.heap[w.heap.size]? = some (.cells (bv R) 4 (0, 0))) (hc : R.length = c) (h2 : 2 ≤ c) (h3 : c ≤ 1000) :
    SS (wr.setCell ⟨s, 0, none⟩ (.slice (some ⟨w.heap.size, 0, none⟩) c c)) s w.heap.size R ∧ w.heap.size ≤ w.heap.size ∧ w.grownBy (wr.setCell ⟨s, 0, none⟩ (.slice (some ⟨w.heap.size, 0, none⟩) c c)) (some s) := by
  have hlt := lt_of_block hs
  have hs' := (hB.block s hlt).trans hs
  refine ⟨⟨?_, ?_, by omega, by omega⟩, Nat.le_refl _, ⟨hB.os, hB.tape, hB.output, by simpa using hB.size, fun k hk hne => ?_⟩⟩
  · rw [one_setCell hs', hc]
  · rw [heap_setCell_other wr ⟨s, 0, none⟩ _ _ (by simp; omega)]
    exact hR
  · rw [heap_setCell_other wr ⟨s, 0, none⟩ k _ (fun e => hne (by rw [e]))]
    exact hB.block k hk

set_option maxHeartbeats 1000000 in
theorem size_any (s : Nat) (A : Option Addr) (l : List Bool) (c : Nat) (w : World) (h : ZZ w s A l) (h2 : 2 ≤ c) (h3 : c ≤ 1000) :
    Calls Try.prog 15 #[.pointer (some ⟨s, 0, none⟩), .int .i64 c] w (SizePost s (resL l c) w) := by
  have hmk := mk_bools c h3
  obtain ⟨L0, hL0⟩ : ∃ L0, L0 = List.replicate c (Value.bool false) := ⟨_, rfl⟩
  rw [← hL0] at hmk
  have hl0 : L0.length = c := by rw [hL0]; simp
  have hsz : (Try.prog.info? 4).map (·.size) = some 1 := by kernel_rfl
  have hc0 := cell_of_one h.hs
  have hlt0 := lt_of_block h.hs
  have hd2 : decide ((c : Int) < 2) = false := decide_eq_false (by omega)
  have hd3 : decide (1000 < (c : Int)) = false := decide_eq_false (by omega)
  have HS := Lib.hid h.hs
  obtain ⟨C, hC⟩ : ∃ C, C = (l.take c).map Value.bool := ⟨_, rfl⟩
  have HL : Hid (C.length = Nat.min l.length c) := Lib.hid (by rw [hC]; simp [Nat.min_comm])
  have HPOS : Hid (0 < C.length → ∃ ad, A = some ad ∧ ∀ (j : Nat) (v : Value), C[j]? = some v → (w.alloc (.cells L0.toArray 4)).cell? (ad.add j) = some v) := Lib.hid fun hp => by
    obtain ⟨b, hA, hb⟩ := h.hb (by have := HL.out; have : Nat.min l.length c ≤ l.length := Nat.min_le_left _ _; omega)
    refine ⟨_, hA, fun j v hj => ?_⟩
    have hbl := lt_of_block hb
    have hadd : (⟨b, 0, none⟩ : Addr).add j = ⟨b, j, none⟩ := by unfold Addr.add; split <;> simp_all
    rw [hadd, World.cell?_alloc_past _ _ _ hbl, cell_of_row w b j _ _ _ hb]
    rw [hC] at hj
    simp only [List.getElem?_map, List.getElem?_take, bv] at hj ⊢
    split at hj
    · simpa using hj
    · simp at hj
  have H1 : Hid (∀ v ∈ C, v.oneCell' = true) := Lib.hid fun v hv => by
    rw [hC] at hv
    obtain ⟨x, _, rfl⟩ := List.mem_map.1 hv
    rfl
  have HST : Hid (splice L0 0 C = (rowK l c (min l.length c)).map Value.bool) := Lib.hid (by rw [hC, hL0]; exact rowK_start l c)
  have hg0 : Hid ((w.alloc (.cells L0.toArray 4)).heap[w.heap.size]? = some (.cells L0.toArray 4 (0, 0))) := Lib.hid (heap_alloc_new w _)
  have HFIT : Hid (0 + C.length ≤ L0.length) := Lib.hid (by
    have := HL.out
    have h0 : Nat.min l.length c ≤ c := Nat.min_le_right _ _
    rw [hl0, this]
    omega)
  have hml : C.length ≤ c := by
    have := HFIT.out
    rw [hl0] at this
    omega
  have HNG : Hid (∀ k, C.length ≤ k → k < c → l.length ≤ k) := Lib.hid fun k hk hkc => by
    have := HL.out
    have h0 : Nat.min l.length c = l.length ∨ Nat.min l.length c = c := by
      rcases Nat.le_total l.length c with h | h
      · exact .inl (Nat.min_eq_left h)
      · exact .inr (Nat.min_eq_right h)
    omega
  have HZ : Hid (C.length = min l.length c) := Lib.hid HL.out
  clear hC h hL0 hl0
  generalize hn : l.length = n at hc0 HL HPOS
  have HNN := Lib.hid hn
  rw [hn] at HS
  clear hn
  go_enter Try.func15, Try.ntmps15
  go_wp2_with ((with_reducible refine wpList_copy_splice rfl (.tmp 19) (.tmp 23) 29 29 rfl 4 Try.underlying29 hsz (some ⟨w.heap.size, 0, none⟩) A c c n n rfl rfl w.heap.size 0 L0 4 hg0.out C HL.out (fun hp => ⟨rfl, HPOS.out hp⟩) HFIT.out H1.out w.heap.size w ((Below.refl _ w).alloc (Nat.le_refl _) _) (Nat.le_refl _) ?_; intro w2 HG2 hB2))
  rw [HST.out] at HG2
  have hg2 : w2.heap[w.heap.size]? = some (.cells (bv (rowK l c (min l.length c))) 4 (0, 0)) := HG2.out
  have HRW : Hid (w2.heap[w.heap.size]? = some (.cells (bv (rowK l c C.length)) 4 (0, 0))) := Lib.hid (by rw [HZ.out]; exact hg2)
  have HB2 := Lib.hid hB2
  clear HG2 hg2 hB2 HST HZ HL HPOS HFIT H1 hg0 hmk hc0
  go_loopw [6] (fun i wr => ∃ k : Nat, C.length ≤ k ∧ k ≤ c ∧ i = .int .i64 k ∧ Hid (wr.heap[w.heap.size]? = some (.cells (bv (rowK l c k)) 4 (0, 0))) ∧ Hid (Below w.heap.size w wr)) (fun i _ => c - (intOf i).toNat)
  case atStart => exact ⟨C.length, Nat.le_refl _, hml, rfl, HRW, HB2⟩
  case round =>
    obtain ⟨k, hkl, hkc, rfl, HR, HB⟩ := hrel
    by_cases hlt : k < c
    · have hnk := HNG.out k hkl hlt
      have HX : Hid ((wr.setCell ⟨w.heap.size, k, none⟩ (.bool ((k : Int) % 8 == 0))).heap[w.heap.size]? = some (.cells (bv (rowK l c (k + 1))) 4 (0, 0))) := Lib.hid (by
        rw [heap_setCell_same wr w.heap.size k _ _ _ HR.out, ← rowK_set l c k hnk hlt]
        have e : ((k : Int) % 8 == 0) = (k % 8 == 0) := by
          rw [Bool.eq_iff_iff]
          simp
          omega
        rw [e]
        congr 2
        simp [bv, List.map_set])
      have HY : Hid (Below w.heap.size w (wr.setCell ⟨w.heap.size, k, none⟩ (.bool ((k : Int) % 8 == 0)))) := Lib.hid (HB.out.setCell (Nat.le_refl _) _)
      have hck : ∃ u, wr.cell? ⟨w.heap.size, k, none⟩ = some (.bool u) := ⟨(rowK l c k)[k]'(by rw [rowK_len]; exact hlt), by
        rw [cell_of_row wr _ k _ _ _ HR.out]
        simp [bv, rowK_len, hlt]⟩
      obtain ⟨u, hck⟩ := hck
      have hfk := frozen_of_row wr _ k _ _ HR.out
      have hki : (k : Int) < c := by omega
      clear HR HB hnk HNG HS HRW HB2
      go_wp2
      go_roundw
      case rel => exact ⟨k + 1, by omega, hlt, by go_num, HX, HY⟩
      case measure => simp [intOf]; omega
    · obtain rfl : k = c := by omega
      have HE := Lib.hid (size_end HS.out HB.out (R := resL l k) (by rw [← rowK_end]; exact HR.out) (resL_len l k) h2 h3)
      have hc0 := (HB.out.cell (p := ⟨s, 0, none⟩) hlt0).trans (cell_of_one HS.out)
      have hf0 := (HB.out.frozen (p := ⟨s, 0, none⟩) hlt0).trans (free_of_one HS.out)
      clear HR HB HRW HB2 HNG HS
      go_wp2
      go_ret
      exact ⟨rfl, _, HE.out⟩

theorem size_no (s : Nat) (c : Int) (w : World) (h : c < 2 ∨ 1000 < c) :
    Calls Try.prog 15 #[.pointer (some ⟨s, 0, none⟩), .int .i64 c] w fun e w' => e = .returned (.int .i64 1) ∧ w = w' := by
  by_cases h2 : c < 2
  · clear h
    go_enter Try.func15, Try.ntmps15
    go_wp2
    go_ret
    exact ⟨rfl, rfl⟩
  · have h3 : 1000 < c := by omega
    have hd : decide (c < 2) = false := decide_eq_false h2
    clear h h2
    go_enter Try.func15, Try.ntmps15
    go_wp2
    go_ret
    exact ⟨rfl, rfl⟩
theorem size_nil (c : Int) (w : World) :
    Calls Try.prog 15 #[.pointer none, .int .i64 c] w fun e w' => e = .returned (.int .i64 1) ∧ w = w' := by
  go_enter Try.func15, Try.ntmps15
  go_wp2
  go_ret
  exact ⟨rfl, rfl⟩

def NewPost (c : Nat) (w : World) (e : Ending) (w' : World) : Prop := ∃ s b, e = .returned (.tuple #[.pointer (some ⟨s, 0, none⟩), .int .i64 0]) ∧ SS w' s b (resL [] c) ∧ w.heap.size ≤ s ∧ w.heap.size ≤ b ∧ Below w.heap.size w w'
theorem new_end {w w' : World} {c : Nat} {s b : Nat} {t : TypeId} {v : Value} (hs : s = w.heap.size) (h : SS w' s b (resL [] c)) (hb : (w.alloc (.cells #[v] t)).heap.size ≤ b) (hg : (w.alloc (.cells #[v] t)).grownBy w' (some s)) :
    SS w' s b (resL [] c) ∧ w.heap.size ≤ s ∧ w.heap.size ≤ b ∧ Below w.heap.size w w' := by
  subst hs
  refine ⟨h, Nat.le_refl _, by simp at hb; omega, (belA (Below.refl _ w) _).grown hg (by simp) (fun k e => by cases e; exact Nat.le_refl _)⟩
theorem new_any (c : Nat) (w : World) (h2 : 2 ≤ c) (h3 : c ≤ 1000) :
    Calls Try.prog 9 #[.int .i64 c] w (NewPost c w) := by
  have HS : Hid (Calls Try.prog 15 #[.pointer (some ⟨w.heap.size, 0, none⟩), .int .i64 c] (w.alloc (.cells #[.slice none 0 0] 52)) (SizePost w.heap.size (resL [] c) (w.alloc (.cells #[.slice none 0 0] 52)))) :=
    Lib.hid (size_any _ none [] c _ ⟨heap_alloc_new w _, fun h => by simp at h, by simp⟩ h2 h3)
  go_enter Try.func9, Try.ntmps9
  go_wp2_with (go_at_call 15; (with_reducible refine HS.out.mono ?_); rintro e w2 ⟨rfl, b, hb, hl, hg⟩; have HE := Lib.hid (new_end rfl hb hl hg); clear hb hl hg)
  go_ret2
  exact ⟨_, _, rfl, HE.out⟩
theorem new_no (c : Int) (w : World) (h : c < 2 ∨ 1000 < c) :
    Calls Try.prog 9 #[.int .i64 c] w fun e w' => e = .returned (.tuple #[.pointer none, .int .i64 1]) ∧ Below w.heap.size w w' := by
  have H := Lib.hid h
  clear h
  go_enter Try.func9, Try.ntmps9
  go_wp2_with (go_at_call 15; (with_reducible refine (size_no _ _ _ H.out).mono ?_); rintro e w2 ⟨rfl, rfl⟩)
  go_ret2
  exact ⟨rfl, belA (Below.refl _ _) _⟩

end Go.Proofs.Ytabipecpkbjdkaa
