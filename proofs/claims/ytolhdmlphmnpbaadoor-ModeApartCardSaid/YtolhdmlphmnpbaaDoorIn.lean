/- The walk of Parse; the law ModeBack. -/
import Derived.Test.YtolhdmlphmnpbaaDoorIm
namespace Go.Proofs.YtolhdmlphmnpbaaDoor
open Go.RowKit

/-- The word that Parse's closure has caught. -/
def WC (w : World) (P1 : Nat) (X : List UInt8) : Prop := w.heap[P1]? = some (.cells #[.string (bsB X)] 9 (0, 0))
theorem WC.past {w w' : World} {P1 : Nat} {X : List UInt8} (h : WC w P1 X) (hb : Below w.heap.size w w') : WC w' P1 X := (hb.block _ (Array.getElem?_eq_some_iff.1 h).1).trans h
theorem word_step {wr W W' : World} {b c : Nat} {v1 v2 v3 : Value} (h : (W.cell? ⟨b, 0, none⟩ = some v1 ∧ W.cell? ⟨b, 1, none⟩ = some v2 ∧ W.cell? ⟨c, 0, none⟩ = some v3) ∧ (b < W.heap.size ∧ c < W.heap.size) ∧ Below wr.heap.size wr W) (hb : Below W.heap.size W W') :
    (W'.cell? ⟨b, 0, none⟩ = some v1 ∧ W'.cell? ⟨b, 1, none⟩ = some v2 ∧ W'.cell? ⟨c, 0, none⟩ = some v3) ∧ (b < W'.heap.size ∧ c < W'.heap.size) ∧ Below wr.heap.size wr W' := by
  obtain ⟨⟨e1, e2, e3⟩, ⟨l1, l2⟩, hB⟩ := h
  have hs := hb.size
  exact ⟨⟨(hb.cell (p := ⟨b, 0, none⟩) l1).trans e1, (hb.cell (p := ⟨b, 1, none⟩) l1).trans e2, (hb.cell (p := ⟨c, 0, none⟩) l2).trans e3⟩, ⟨by omega, by omega⟩, bel0 hB hb⟩
theorem word_below {wr W : World} {b c : Nat} {v1 v2 v3 : Value} (h : (W.cell? ⟨b, 0, none⟩ = some v1 ∧ W.cell? ⟨b, 1, none⟩ = some v2 ∧ W.cell? ⟨c, 0, none⟩ = some v3) ∧ (b < W.heap.size ∧ c < W.heap.size) ∧ Below wr.heap.size wr W) : Below wr.heap.size wr W := h.2.2
set_option maxRecDepth 100000 in
set_option maxHeartbeats 4000000 in
theorem wordFn_any (P1 : Nat) (a : Bool) (m : Int) (h0 : -9223372036854775808 ≤ m) (h1 : m ≤ 9223372036854775807) (X : List UInt8) (w : World) (h : WC w P1 X) (hI : TI w) :
    Calls Tryd.prog 26 #[.agg #[.bool a, .int .i64 m], .pointer (some ⟨P1, 0, none⟩)] w fun e w' => e = .returned (.bool (textM a m == X)) ∧ Below w.heap.size w w' := by
  have HW := Lib.hid (belA (Below.refl w.heap.size w) (.cells #[.bool a, .int .i64 m] 50))
  have y0 := heap_alloc_new w (.cells #[.bool a, .int .i64 m] 50)
  have hS : ((w.alloc (.cells #[.bool a, .int .i64 m] 50)).cell? ⟨w.heap.size, 0, none⟩ = some (.bool a) ∧ (w.alloc (.cells #[.bool a, .int .i64 m] 50)).cell? ⟨w.heap.size, 1, none⟩ = some (.int .i64 m) ∧ (w.alloc (.cells #[.bool a, .int .i64 m] 50)).cell? ⟨P1, 0, none⟩ = some (.string (bsB X))) ∧ (w.heap.size < (w.alloc (.cells #[.bool a, .int .i64 m] 50)).heap.size ∧ P1 < (w.alloc (.cells #[.bool a, .int .i64 m] 50)).heap.size) ∧ Below w.heap.size w (w.alloc (.cells #[.bool a, .int .i64 m] 50)) :=
    ⟨⟨cell_of_row _ _ 0 _ _ _ y0, cell_of_row _ _ 1 _ _ _ y0, cell_of_row _ _ 0 _ _ _ (h.past HW.out)⟩, ⟨by simp, lt_of_block (h.past HW.out)⟩, HW.out⟩
  have hSd := word_step hS (Below.refl _ _).drew
  have HC : Hid (∀ W, Below w.heap.size w W → Calls Tryd.prog 23 #[.agg #[.bool a, .int .i64 m]] W fun e w' => e = .returned (.string (bsB (textM a m))) ∧ Below W.heap.size W w') := Lib.hid fun W hb => text_any a m h0 h1 W (hI.below hb)
  have HE : Hid (((bsB (textM a m)).toList == (bsB X).toList) = (textM a m == X)) := Lib.hid (by rw [bs_toList, bs_toList])
  clear hS y0 h hI h0 h1
  generalize (textM a m == X) = r at *
  generalize bsB (textM a m) = s1 at *
  generalize bsB X = s2 at *
  have he := HE.out
  go_enter Tryd.func26, Tryd.ntmps26
  go_wp2
  go_region_held3 (fun W => (W.cell? ⟨w.heap.size, 0, none⟩ = some (.bool a) ∧ W.cell? ⟨w.heap.size, 1, none⟩ = some (.int .i64 m) ∧ W.cell? ⟨P1, 0, none⟩ = some (.string s2)) ∧ (w.heap.size < W.heap.size ∧ P1 < W.heap.size) ∧ Below w.heap.size w W)
    (first | exact hSd | exact word_step hSd hbx | exact word_step (by assumption) hbx | assumption)
    (first
      | (go_at_call 23; (with_reducible refine (HC.out _ ?_).mono ?_); (first | exact hSd.2.2 | exact word_below (by assumption)); rintro e8 w8 ⟨rfl, hbx⟩))
  all_goals
    (try simp only [Exit.then])
    go_wp2
    go_ret
    exact ⟨rfl, word_below (by assumption)⟩
set_option maxRecDepth 100000 in
set_option maxHeartbeats 4000000 in
theorem findWord_any (P1 : Nat) (X : List UInt8) (w : World) (h : WC w P1 X) (hT : NT w) (hI : TI w) :
    Calls Tryd.prog 25 #[.func (.func 26) #[] #[.pointer (some ⟨P1, 0, none⟩)]] w fun e w' => e = .returned (.int .i64 (posQ fun k => tx k == X)) ∧ Below w.heap.size w w' := by
  obtain ⟨tt, fr, hL⟩ := hT
  have HP := Lib.hid h
  have HI := Lib.hid hI
  clear h hI
  go_enter Tryd.func25, Tryd.ntmps25
  go_wp2_with (refine wpList_load_row rfl 51 _ rfl 0 rfl tt namesV fr _ hL Tryd.underlying51 rfl (by kernel_rfl) ?_)
  clear hL
  go_loopw [6] (fun q wr => ∃ k : Nat, q = .int .i64 k ∧ k ≤ 18 ∧ Hid (∀ j, j < k → (tx j == X) = false) ∧ Hid (Below w.heap.size w wr)) (fun q _ => 18 - (intOf q).toNat)
  case atStart => exact ⟨0, rfl, Nat.zero_le _, Lib.hid (fun j hj => by omega), Lib.hid (Below.refl _ _)⟩
  case round =>
    obtain ⟨k, rfl, hk, HK, HB⟩ := hrel
    by_cases hlt : k < 18
    · have hki : (k : Int) < 18 := by omega
      have hix := index_mode k hlt
      have HW := Lib.hid (belA HB.out (.cells #[.bool (pM k), .int .i64 (nM k)] 50))
      have hbd := modes_i64 k hlt
      have HC := Lib.hid (wordFn_any P1 (pM k) (nM k) hbd.1 hbd.2 X _ (HP.out.past HW.out) (HI.out.below HW.out))
      clear hbd
      change Hid (Calls Tryd.prog 26 _ _ fun e w' => e = .returned (.bool (tx k == X)) ∧ _) at HC
      generalize hq : (tx k == X) = q at *
      cases q with
      | true =>
        have HS := Lib.hid (posQ_yes (q := fun k => tx k == X) hlt hq (fun j hj => HK.out j hj))
        clear hq HK
        generalize pM k = a at *
        generalize nM k = b at *
        go_wp2_with (go_at_call 26; (with_reducible refine (HC.out).mono ?_); rintro e w1 ⟨rfl, hb⟩; have HB1 := Lib.hid (bel0 HW.out hb); clear hb)
        go_ret
        exact ⟨by rw [HS.out]; rfl, HB1.out⟩
      | false =>
        have HKN : Hid (∀ j, j < k + 1 → (tx j == X) = false) := Lib.hid fun j hj => by
          rcases (by omega : j < k ∨ j = k) with h | rfl
          · exact HK.out j h
          · exact hq
        clear hq HK
        generalize pM k = a at *
        generalize nM k = b at *
        go_wp2_with (go_at_call 26; (with_reducible refine (HC.out).mono ?_); rintro e w1 ⟨rfl, hb⟩; have HB1 := Lib.hid (bel0 HW.out hb); clear hb)
        go_roundw
        case rel => exact ⟨k + 1, by go_num, hlt, HKN, HB1⟩
        case measure => simp [intOf]; omega
    · obtain rfl : k = 18 := by omega
      have HS := Lib.hid (posQ_no (q := fun k => tx k == X) (fun j hj => HK.out j hj))
      clear HK
      go_wp2
      go_ret
      exact ⟨by rw [HS.out]; rfl, HB.out⟩


theorem tx_apart {i j : Nat} (hi : i < 18) (hj : j < 18) (h : tx i = tx j) : i = j := by
  have e := tx_place i hi (pM j) (nM j)
  rw [placeZ_self j hj, show (tx i == textM (pM j) (nM j)) = true from beq_iff_eq.2 h] at e
  have := of_decide_eq_true e.symm
  omega
theorem pos_tx (k : Nat) (hk : k < 18) : posQ (fun j => tx j == tx k) = k :=
  posQ_yes hk (beq_self_eq_true _) (fun j hj => by
    rw [beq_eq_false_iff_ne]
    intro e
    have := tx_apart (by omega) hk e
    omega)
theorem sv_ext {F f : Nat → Bool} (h : ∀ k, k < 18 → F k = f k) : sv F = sv f := by
  unfold sv
  rw [List.map_congr_left (fun k hk => by rw [h k (List.mem_range.1 hk)])]
/-- The j-th text of those that are set. -/
theorem listL_get (f : Nat → Bool) (j : Nat) (hj : j < (listL f).length) : ∃ k, k < 18 ∧ (listL f)[j]?.getD [] = tx k := by
  rw [List.getElem?_eq_getElem hj]
  have hm : (listL f)[j] ∈ listL f := List.getElem_mem hj
  obtain ⟨k, hk, e⟩ := List.mem_map.1 hm
  exact ⟨k, List.mem_range.1 (List.mem_filter.1 hk).1, e.symm⟩
theorem take_cont (L : List (List UInt8)) (j : Nat) (hj : j < L.length) (F : Nat → Bool) (i : Nat) (hi : i < 18) (h : L[j]?.getD [] = tx i) (hF : ∀ k, k < 18 → F k = (L.take j).contains (tx k)) (k : Nat) (hk : k < 18) : updS F i true k = (L.take (j + 1)).contains (tx k) := by
  rw [take_snocS L j hj, h]
  have e : (L.take j ++ [tx i]).contains (tx k) = ((L.take j).contains (tx k) || tx k == tx i) := by
    rw [Bool.eq_iff_iff]
    simp
  rw [e, ← hF k hk, updS]
  by_cases e2 : k = i
  · subst e2
    simp
  · have : (tx k == tx i) = false := by
      rw [beq_eq_false_iff_ne]
      exact fun e3 => e2 (tx_apart hk hi e3)
    rw [this, Bool.or_false, if_neg (by omega)]
set_option maxRecDepth 100000 in
set_option maxHeartbeats 4000000 in
theorem parse_any (A : Option Addr) (f : Nat → Bool) (n c : Nat) (hn : n = (listL f).length) (w : World) (hR : RT w w.heap.size A (listL f)) (hT : NT w) (hI : TI w) :
    Calls Tryd.prog 20 #[.slice A n c] w fun e w' => e = .returned (.tuple #[.agg (sv f), .int .i64 0]) ∧ Below w.heap.size w w' := by
  have hn18 : n ≤ 18 := by have := listL_le f; omega
  have HR := Lib.hid hR
  have HN := Lib.hid hn
  have HT := Lib.hid hT
  have HI := Lib.hid hI
  have HBS := Lib.hid (belA (belA (Below.refl w.heap.size w) (.cells zeroS 26)) (.cells zeroS 26))
  have HY2 := Lib.hid (heap_alloc2_old w (.cells zeroS 26) (.cells zeroS 26))
  have HY4 : Hid (((w.alloc (.cells zeroS 26)).alloc (.cells zeroS 26)).heap[w.heap.size + 1]? = some (.cells (sv fun _ => false) 26 (0, 0))) := Lib.hid (heap_alloc2_new w _ _)
  have HF0 : Hid (∀ k, k < 18 → (fun _ => false : Nat → Bool) k = ((listL f).take 0).contains (tx k)) := Lib.hid fun k _ => rfl
  clear hR hn hT hI
  go_enter Tryd.func20, Tryd.ntmps20
  go_wp2
  go_loopw [10] (fun i wr => ∃ (j : Nat) (F : Nat → Bool), i = .int .i64 j ∧ j ≤ n ∧ Hid (∀ k, k < 18 → F k = ((listL f).take j).contains (tx k)) ∧ Hid (wr.heap[w.heap.size]? = some (.cells zeroS 26 (0, 0))) ∧ Hid (wr.heap[w.heap.size + 1]? = some (.cells (sv F) 26 (0, 0))) ∧ Hid (Below w.heap.size w wr)) (fun i _ => n - (intOf i).toNat)
  case atStart => exact ⟨0, fun _ => false, rfl, Nat.zero_le _, HF0, HY2, HY4, HBS⟩
  case round =>
    obtain ⟨j, F, rfl, hj, HF, HY2r, HY4r, HB⟩ := hrel
    clear HF0 HY2 HY4 HBS
    by_cases hlt : j < n
    · obtain ⟨b, off, e, hblt, hc⟩ := HR.out (fun e => by have := HN.out; rw [e] at this; simp at this; omega)
      subst e
      have hck := (HB.out.cell (p := ⟨b, off + j, none⟩) hblt).trans (hc j (HN.out ▸ hlt))
      obtain ⟨k, hk, hx⟩ := listL_get f j (HN.out ▸ hlt)
      have HFN := Lib.hid (take_cont (listL f) j (HN.out ▸ hlt) F k hk hx HF.out)
      rw [hx] at hck
      have hli : (j : Int) < n := by omega
      have hki : (k : Int) < 18 := by omega
      have hk0 : decide ((k : Int) < 0) = false := decide_eq_false (by omega)
      have HBA := Lib.hid (belA HB.out (.cells #[.string (bsB (tx k))] 9))
      have HC : Hid (Calls Tryd.prog 25 #[.func (.func 26) #[] #[.pointer (some ⟨wr.heap.size, 0, none⟩)]] (wr.alloc (.cells #[.string (bsB (tx k))] 9)) fun e w' => e = .returned (.int .i64 k) ∧ Below (wr.alloc (.cells #[.string (bsB (tx k))] 9)).heap.size (wr.alloc (.cells #[.string (bsB (tx k))] 9)) w') := Lib.hid (by
        have h := findWord_any wr.heap.size (tx k) _ (heap_alloc_new wr _) (HT.out.below HBA.out) (HI.out.below HBA.out)
        rwa [pos_tx k hk] at h)
      have HY2a : Hid ((wr.alloc (.cells #[.string (bsB (tx k))] 9)).heap[w.heap.size]? = some (.cells zeroS 26 (0, 0))) := Lib.hid ((heap_alloc_old wr _ (lt_of_block HY2r.out)).trans HY2r.out)
      have HY4a : Hid ((wr.alloc (.cells #[.string (bsB (tx k))] 9)).heap[w.heap.size + 1]? = some (.cells (sv F) 26 (0, 0))) := Lib.hid ((heap_alloc_old wr _ (lt_of_block HY4r.out)).trans HY4r.out)
      clear hc hblt HF hx HY2r HY4r HB
      generalize bsB (tx k) = X at *
      go_wp2_with (go_at_call 25; (with_reducible refine (HC.out).mono ?_); rintro e w3 ⟨rfl, hb⟩; have y4 := (hb.block _ (lt_of_block HY4a.out)).trans HY4a.out; have ck := cell_of_row _ _ k _ _ _ y4; rw [sv_at F k hk] at ck; have fk := frozen_of_row _ _ k _ _ y4; have yn := heap_setCell_same w3 _ k _ _ (.bool true) y4; rw [sv_set F k hk] at yn; have HYN := Lib.hid yn; have HZN : Hid ((w3.setCell ⟨w.heap.size + 1, k, none⟩ (.bool true)).heap[w.heap.size]? = some (.cells zeroS 26 (0, 0))) := Lib.hid ((heap_setCell_other w3 ⟨w.heap.size + 1, k, none⟩ w.heap.size (.bool true) (by simp)).trans ((hb.block _ (lt_of_block HY2a.out)).trans HY2a.out)); have HBN := Lib.hid ((bel0 HBA.out hb).setCell (p := ⟨w.heap.size + 1, k, none⟩) (Nat.le_succ _) (.bool true)); clear hb y4 yn)
      go_roundw
      case rel => exact ⟨j + 1, updS F k true, by go_num, hlt, HFN, HZN, HYN, HBN⟩
      case measure => simp [intOf]; omega
    · obtain rfl : j = n := by omega
      have HE : Hid (sv F = sv f) := Lib.hid (sv_ext fun k hk => by
        have h := HF.out k hk
        rw [HN.out, List.take_length, listL_at f k hk] at h
        exact h)
      rw [HE.out] at HY4r
      clear HF HE
      go_wp2_with (first
        | (refine wpList_load_row rfl 26 _ rfl (w.heap.size + 1) rfl 26 _ (0, 0) _ HY4r.out Tryd.underlying26 rfl (infoSet _) ?_)
        | (refine wpList_store_row rfl 26 _ _ rfl w.heap.size _ rfl rfl 26 _ HY2r.out (infoSet _) (by rw [zeroS_eq, sv_size, sv_size]) (sv_one _) ?_))
      have hld := run_loadVar_row (P := Tryd.prog) (wr.setRow w.heap.size (sv f)) w.heap.size 26 26 (sv f) (0, 0) _ (setRow_heap _ _ _ _ _ _ HY2r.out) Tryd.underlying26 rfl (infoSet _)
      refine bodyPost_ret (v := .tuple #[.agg (sv f), .int .i64 0]) ?_ rfl ⟨rfl, row_below HB.out (Nat.le_refl _)⟩
      simp [results, Tryd.results20, asAddr, hld]
/-- The box that was laid last is written; an elder one stays. -/
theorem back_boxes {x3 : World} {g : Nat} {f : Nat → Bool} {cs : Array Value} (hg : g < x3.heap.size) (hy : x3.heap[g]? = some (.cells (sv f) 26 (0, 0))) :
    ((x3.alloc (.cells zeroS 26)).setRow x3.heap.size cs).heap[x3.heap.size]? = some (.cells cs 26 (0, 0)) ∧ ((x3.alloc (.cells zeroS 26)).setRow x3.heap.size cs).heap[g]? = some (.cells (sv f) 26 (0, 0)) :=
  ⟨setRow_heap _ _ _ _ _ _ (heap_alloc_new x3 _), (setRow_other _ _ _ _ (by omega)).trans ((heap_alloc_old x3 _ hg).trans hy)⟩
set_option maxRecDepth 100000 in
set_option maxHeartbeats 8000000 in
theorem modeBack_law (A : Option Addr) (l : List (Bool × Int × Bool)) (n cp : Nat) (hn : n = l.length) (hl : okO l) (w : World) (hR : RO w w.heap.size A l) (hT : NT w) (hI : TI w) :
    Calls Tryd.prog 5 #[.slice A n cp] w fun e w' => e = .returned (.bool true) ∧ Below w.heap.size w w' := by
  by_cases h100 : (100 : Int) < n
  · clear hR hn hl
    go_enter Tryd.func5, Tryd.ntmps5
    go_wp2_with (go_at_call 7; (with_reducible refine (awake_any _ hT hI).mono ?_); rintro e w0 ⟨rfl, hb0⟩; have HB0 := Lib.hid hb0; clear hb0)
    go_ret
    exact ⟨rfl, HB0.out⟩
  · have hn100 : (n : Int) ≤ 100 := by omega
    have hdn : decide (100 < (n : Int)) = false := decide_eq_false h100
    have HR := Lib.hid hR
    have HN := Lib.hid hn
    have HL := Lib.hid hl
    have HT := Lib.hid hT
    have HI := Lib.hid hI
    clear hR hn hl hT hI h100
    go_enter Tryd.func5, Tryd.ntmps5
    go_wp2_with (first
      | (go_at_call 7; (with_reducible refine (awake_any _ HT.out HI.out).mono ?_); rintro e w0 ⟨rfl, hb0⟩; have HB0 := Lib.hid hb0; clear hb0)
      | (go_at_call 8; (with_reducible refine (new_any _ (HT.out.below HB0.out)).mono ?_); rintro e w2 ⟨rfl, hb⟩; have HB2 := Lib.hid (bel0 HB0.out hb); have HB3 := Lib.hid (belA (bel0 HB0.out hb) (.cells zeroS 26)); have Y2 := Lib.hid (heap_alloc_new w2 (.cells zeroS 26)); clear hb)
      | (refine wpList_store_row rfl 26 _ _ rfl w2.heap.size _ rfl rfl 26 _ Y2.out (infoSet _) (by rw [zeroS_eq, sv_size, sv_size]) (sv_one _) ?_))
    have HG := Lib.hid HB2.out.size
    have HYS := Lib.hid (setRow_heap _ _ _ (sv firstF) _ _ Y2.out)
    have HBS := Lib.hid (row_below (cs := sv firstF) HB3.out HG.out)
    clear Y2 HB3 HB0
    generalize w2.heap.size = g at *
    go_loopw [4] (fun i wr => ∃ (k : Nat) (f : Nat → Bool), i = .int .i64 k ∧ k ≤ n ∧ Hid (wr.heap[g]? = some (.cells (sv f) 26 (0, 0))) ∧ Hid (Below w.heap.size w wr)) (fun i _ => n - (intOf i).toNat)
    case atStart => exact ⟨0, firstF, rfl, Nat.zero_le _, HYS, HBS⟩
    case round =>
      obtain ⟨k, f, rfl, hk, HY, HB⟩ := hrel
      clear HYS HBS
      by_cases hlt : k < n
      · obtain ⟨b, off, q, m, on, rfl, hbl, hlk, k0, k1, k2⟩ := HR.out.at HB.out k (by have := HN.out; omega)
        have hki : (k : Int) < n := by omega
        have HM := Lib.hid (HL.out k q m on hlk)
        have HBL := Lib.hid hbl
        have hbw : b < wr.heap.size := Nat.lt_of_lt_of_le hbl HB.out.size
        have HBd := Lib.hid HB.out.drew
        have HC := Lib.hid (with_any f q m on wr.drew (HT.out.below HBd.out))
        clear hlk hbl
        go_wp2
        refine wp_region_still_tail 16 (by kernel_rfl) (by kernel_rfl) ?_
        simp only [List.take_succ_cons, List.take_zero, List.drop_succ_cons, List.drop_zero]
        refine wpStill_load_row rfl 26 _ rfl g rfl 26 _ (0, 0) _ HY.out Tryd.underlying26 rfl (infoSet _) ?_
        repeat still_step
        try refine wpStill_nil ?_
        change wpList _ _ _ _ _ wr.drew
        have k0d : wr.drew.cell? ⟨b, off + k * 3, none⟩ = some (.bool q) := k0
        have k1d : wr.drew.cell? ⟨b, off + k * 3 + 1, none⟩ = some (.int .i64 m) := k1
        have k2d : wr.drew.cell? ⟨b, off + k * 3 + 2, none⟩ = some (.bool on) := k2
        have HYd : Hid (wr.drew.heap[g]? = some (.cells (sv f) 26 (0, 0))) := Lib.hid HY.out
        have hbd : b < wr.drew.heap.size := hbw
        clear k0 k1 k2 HY hbw HB
        generalize wr.drew = wd at *
        go_wp2_with (first
          | (go_at_call 10; (with_reducible refine (HC.out).mono ?_); rintro e w3 ⟨rfl, hb⟩; have HY3 := Lib.hid ((hb.block _ (lt_of_block HYd.out)).trans HYd.out); have HB3 := Lib.hid (bel0 HBd.out hb); clear hb)
          | (refine wpList_store_row rfl 26 _ _ rfl g _ rfl rfl 26 _ HY3.out (infoSet _) (by rw [sv_size, sv_size]) (sv_one _) ?_))
        have HYa := Lib.hid (setRow_heap _ _ _ (sv (updS f (placeZ q m) on)) _ _ HY3.out)
        have HBa := Lib.hid (row_below (cs := sv (updS f (placeZ q m) on)) HB3.out HG.out)
        go_roundw
        case rel => exact ⟨k + 1, _, by go_num, hlt, HYa, HBa⟩
        case measure => simp [intOf]; omega
      · obtain rfl : k = n := by omega
        have HLI : Hid (∀ W, Below wr.heap.size wr W → Calls Tryd.prog 14 #[.agg (sv f)] W (StrsPost (listL f) W)) := Lib.hid fun W hb => list_any f W (HT.out.below (bel0 HB.out hb)) (HI.out.below (bel0 HB.out hb))
        have HPA : Hid (∀ A2 c2 W, RT W W.heap.size A2 (listL f) → Below wr.heap.size wr W → Calls Tryd.prog 20 #[.slice A2 (listL f).length c2] W fun e w' => e = .returned (.tuple #[.agg (sv f), .int .i64 0]) ∧ Below W.heap.size W w') := Lib.hid fun A2 c2 W hr hb => parse_any A2 f _ c2 rfl W hr (HT.out.below (bel0 HB.out hb)) (HI.out.below (bel0 HB.out hb))
        have he : ∀ W, (Op.equalIn 10000 26 (.agg (sv f)) (.agg (sv f))).run Tryd.prog W = .ok true W := fun W => by
          rw [eqSet W f f, eqS_self]
        have hg := guardSet
        go_wp2_with (first
          | (refine wpList_load_row rfl 26 _ rfl g rfl 26 _ (0, 0) _ HY.out Tryd.underlying26 rfl (infoSet _) ?_)
          | (go_at_call 14; (with_reducible refine (HLI.out _ (Below.refl _ _)).mono ?_); rintro e x2 ⟨vl, rfl, ho, hb⟩; have HX2 := Lib.hid hb; have HY2 := Lib.hid ((hb.block _ (lt_of_block HY.out)).trans HY.out); obtain ⟨A2, c2, hf, _⟩ := own_form ho; subst hf; have HR2 := Lib.hid (RT.of_own ho); clear hb ho)
          | (go_at_call 20; (with_reducible refine (HPA.out _ _ _ HR2.out HX2.out).mono ?_); rintro e x3 ⟨rfl, hb⟩; have HX3 := Lib.hid (bel0 HX2.out hb); have HY3 := Lib.hid ((hb.block _ (lt_of_block HY2.out)).trans HY2.out); have Z3 := Lib.hid (heap_alloc_new x3 (.cells zeroS 26)); have HG3 := Lib.hid (back_boxes (cs := sv f) (Nat.lt_of_lt_of_le (lt_of_block HY2.out) hb.size) HY3.out); clear hb)
          | (refine wpList_store_row rfl 26 _ _ rfl x3.heap.size _ rfl rfl 26 _ Z3.out (infoSet _) (by rw [zeroS_eq, sv_size, sv_size]) (sv_one _) ?_)
          | (refine wpList_load_rowG rfl 26 _ rfl x3.heap.size rfl 26 _ (0, 0) _ HG3.out.1 Tryd.underlying26 rfl (infoSet _) ?_)
          | (refine wpList_load_rowG rfl 26 _ rfl g rfl 26 _ (0, 0) _ HG3.out.2 Tryd.underlying26 rfl (infoSet _) ?_))
        go_ret
        exact ⟨rfl, row_below (belA (bel0 HB.out HX3.out) _) (bel0 HB.out HX3.out).size⟩
end Go.Proofs.YtolhdmlphmnpbaaDoor
