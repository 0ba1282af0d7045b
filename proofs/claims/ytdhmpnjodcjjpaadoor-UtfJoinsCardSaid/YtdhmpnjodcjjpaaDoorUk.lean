/- The walk of the reference's Begins: do a scalar's bytes begin so, and go on? -/
import Derived.Test.YtdhmpnjodcjjpaaDoorUr
import Derived.Test.YtdhmpnjodcjjpaaDoorKa
import Derived.Deep.AppendLies
import Derived.Deep.RegionWith
namespace Go.Proofs.YtdhmpnjodcjjpaaDoor
open Go.RowKit Go.Shelf

theorem Tryd.infoByte : (Tryd.prog.info? 5).map (fun i => (i.zero, i.size, i.bytes)) = some (some (.int .u8 0), 1, 1) := by kernel_rfl
def encB (z : Nat) : Value := .int .u8 (z : Nat)
/-- Bytes, filled up to a number of them. -/
def padL (zs : List Nat) (m x : Nat) : List Nat := zs ++ List.replicate (m - zs.length) x
theorem padL_len (zs : List Nat) (m x : Nat) (h : zs.length ≤ m) : (padL zs m x).length = m := by unfold padL; simp; omega
theorem padL_0 (zs : List Nat) (x : Nat) : padL zs zs.length x = zs := by unfold padL; simp
theorem padL_succ (zs : List Nat) (m x : Nat) (h : zs.length ≤ m) : padL zs (m + 1) x = padL zs m x ++ [x] := by
  unfold padL
  rw [show m + 1 - zs.length = (m - zs.length) + 1 by omega, List.replicate_succ', ← List.append_assoc]
def fromZ (m : Nat) : Int := if m = 2 then 128 else if m = 3 then 2048 else 65536
def toZ (m : Nat) : Int := if m = 2 then 2047 else if m = 3 then 65535 else 1114111
def begTest (lo hi f t : Int) : Bool := decide (0 ≤ lo ∧ 0 ≤ hi ∧ max lo f ≤ min hi t ∧ ¬ (55296 ≤ max lo f ∧ min hi t ≤ 57343))
def begAt (m : Nat) (zs : List Nat) : Bool := begTest (numZ (padL zs m 128)) (numZ (padL zs m 191)) (fromZ m) (toZ m)
/-- Do a scalar's bytes begin so, and go on? -/
def begB (zs : List Nat) : Bool := (List.range 5).any fun m => decide (0 < zs.length ∧ zs.length < m) && begAt m zs

theorem BS.of_own {w : World} {base n c : Nat} {A : Option Addr} {zs : List Nat} (hz : ∀ z ∈ zs, z < 256) (h : w.ownsRow base 5 1 (.slice A n c) n (zs.map encB)) : BS w w.heap.size A zs := ⟨hz, fun hn => by
  have hl : zs.length = n := by have := h.1; simpa using this
  obtain ⟨A', c', e, hA⟩ := own_form h
  injection e with e1 _ _
  subst e1
  obtain ⟨g, rfl⟩ := hA (by rw [← hl]; exact List.length_pos_iff.2 hn)
  refine ⟨g, 0, rfl, (h.lt g rfl).2, fun k hk => ?_⟩
  rw [Nat.zero_add, h.cellAt k (by omega), List.getElem?_map, List.getElem?_eq_getElem hk]
  rfl⟩
theorem bs_news {w : World} {b off : Nat} {zs : List Nat} (hc : ∀ k, k < zs.length → w.cell? ⟨b, off + k, none⟩ = some (.int .u8 (zs[k]?.getD 0))) : ∀ (j : Nat) (u : Value), (zs.map encB)[j]? = some u → w.cell? ((⟨b, off, none⟩ : Addr).add j) = some u := fun j u h => by
  rw [show (⟨b, off, none⟩ : Addr).add j = ⟨b, off + j, none⟩ by unfold Addr.add; split <;> simp_all]
  have hj : j < zs.length := by have := (List.getElem?_eq_some_iff.1 h).1; simpa using this
  rw [hc j hj]
  rw [List.getElem?_map, List.getElem?_eq_getElem hj] at h
  rw [List.getElem?_eq_getElem hj]
  exact h
theorem encB_one (zs : List Nat) : ∀ u ∈ zs.map encB, u.oneCell' = true := by
  intro u hu
  obtain ⟨z, _, rfl⟩ := List.mem_map.1 hu
  rfl

theorem side_row {wr w6 : World} {B a4 a5 k5 j g k : Nat} {ys : List Value} {o : Obj} (O5 : wr.ownsRow B 5 1 (.slice (some ⟨a5, 0, none⟩) j k5) k ys) (NE : a4 ≠ a5) (hg : (wr.alloc o).grownBy w6 (some a4)) (hor : some a4 = some g ∨ g = (wr.alloc o).heap.size) :
    w6.ownsRow B 5 1 (.slice (some ⟨a5, 0, none⟩) j k5) k ys ∧ g ≠ a5 := by
  refine ⟨(O5.alloc o).kept hg (.inr (by simp only [Value.ownBlock, ne_eq, Option.some.injEq]; exact fun e => NE e.symm)), ?_⟩
  have := (O5.lt a5 rfl).2
  rcases hor with h | h
  · have : a4 = g := by simpa using h
    omega
  · simp at h
    omega

theorem from_cell (m : Nat) (h : m = 2 ∨ m = 3 ∨ m = 4) (W : World) : (W.alloc (.cells #[.int .i32 0, .int .i32 0, .int .i32 128, .int .i32 2048, .int .i32 65536] 21)).cell? ⟨W.heap.size, m, none⟩ = some (.int .i32 (fromZ m)) := by
  refine (cell_of_row _ _ _ _ _ _ (heap_alloc_new W _)).trans ?_
  rcases h with rfl | rfl | rfl <;> rfl
theorem to_cell (m : Nat) (h : m = 2 ∨ m = 3 ∨ m = 4) (W : World) : (W.alloc (.cells #[.int .i32 0, .int .i32 0, .int .i32 2047, .int .i32 65535, .int .i32 1114111] 21)).cell? ⟨W.heap.size, m, none⟩ = some (.int .i32 (toZ m)) := by
  refine (cell_of_row _ _ _ _ _ _ (heap_alloc_new W _)).trans ?_
  rcases h with rfl | rfl | rfl <;> rfl
theorem from_cell' (m : Nat) (h : m = 2 ∨ m = 3 ∨ m = 4) (W : World) (o : Obj) : ((W.alloc o).alloc (.cells #[.int .i32 0, .int .i32 0, .int .i32 128, .int .i32 2048, .int .i32 65536] 21)).cell? ⟨W.heap.size + 1, m, none⟩ = some (.int .i32 (fromZ m)) := by
  have := from_cell m h (W.alloc o)
  simpa using this
theorem to_cell' (m : Nat) (h : m = 2 ∨ m = 3 ∨ m = 4) (W : World) (o : Obj) : ((W.alloc o).alloc (.cells #[.int .i32 0, .int .i32 0, .int .i32 2047, .int .i32 65535, .int .i32 1114111] 21)).cell? ⟨W.heap.size + 1, m, none⟩ = some (.int .i32 (toZ m)) := by
  have := to_cell m h (W.alloc o)
  simpa using this
theorem from_cell'' (m : Nat) (h : m = 2 ∨ m = 3 ∨ m = 4) (W : World) (o : Obj) : ((W.alloc (.cells #[.int .i32 0, .int .i32 0, .int .i32 128, .int .i32 2048, .int .i32 65536] 21)).alloc o).cell? ⟨W.heap.size, m, none⟩ = some (.int .i32 (fromZ m)) :=
  (((Below.refl _ _).alloc (Nat.le_refl _) o).cell (p := ⟨W.heap.size, m, none⟩) (by simp)).trans (from_cell m h W)
theorem to_cell'' (m : Nat) (h : m = 2 ∨ m = 3 ∨ m = 4) (W : World) (o : Obj) : ((W.alloc (.cells #[.int .i32 0, .int .i32 0, .int .i32 2047, .int .i32 65535, .int .i32 1114111] 21)).alloc o).cell? ⟨W.heap.size, m, none⟩ = some (.int .i32 (toZ m)) :=
  (((Below.refl _ _).alloc (Nat.le_refl _) o).cell (p := ⟨W.heap.size, m, none⟩) (by simp)).trans (to_cell m h W)
theorem pad_lt {zs : List Nat} (hz : ∀ z ∈ zs, z < 256) (m x : Nat) (hx : x < 256) : ∀ z ∈ padL zs m x, z < 256 := by
  intro z h
  rcases List.mem_append.1 h with h | h
  · exact hz z h
  · have := List.eq_of_mem_replicate h; omega

set_option maxRecDepth 100000 in
set_option maxHeartbeats 4000000 in
theorem begins_any (b off : Nat) (zs : List Nat) (n c : Nat) (hn : n = zs.length) (h0 : 0 < n) (h3 : n ≤ 3) (w : World) (hR : BS w w.heap.size (some ⟨b, off, none⟩) zs) :
    Calls Tryd.prog 18 #[.slice (some ⟨b, off, none⟩) n c] w fun e w' => e = .returned (.bool (begB zs)) ∧ Below w.heap.size w w' := by
  obtain ⟨i0, hi, hz0, hz1, hz2⟩ := info_parts Tryd.infoByte
  have HR := Lib.hid hR
  have HN := Lib.hid hn
  have hnl : (0 : Int) < n := by omega
  clear hR hn
  go_enter Tryd.func18, Tryd.ntmps18
  go_wp2
  go_loopw [3] (fun i wr => ∃ m : Nat, n < m ∧ m ≤ 5 ∧ i = .int .i64 m ∧ Hid (∀ j, n < j → j < m → begAt j zs = false) ∧ Hid (Below w.heap.size w wr)) (fun i _ => 5 - (intOf i).toNat)
  case atStart => exact ⟨n + 1, by omega, by omega, by go_num, Lib.hid (fun j h1 h2 => by omega), Lib.hid (Below.refl _ _)⟩
  case round =>
    obtain ⟨m, hm0, hm5, rfl, HK, HB⟩ := hrel
    by_cases hm4 : m ≤ 4
    · have hm1 : (m : Int) ≤ 4 := by omega
      have hn1 : 0 + n ≤ maxLen := by unfold maxLen; omega
      have hn2 : (0 + n) * 1 ≤ 140737488355328 := by omega
      have hbs := HB.out.size
      have HNEW : Hid (∀ W, Below w.heap.size w W → ∀ (j : Nat) (u : Value), (zs.map encB)[j]? = some u → W.cell? ((⟨b, off, none⟩ : Addr).add j) = some u) := Lib.hid fun W hW => by
        obtain ⟨b', off', e, _, hc⟩ := (HR.out.below hW).2 (by rintro rfl; have := HN.out; simp at this; omega)
        obtain ⟨rfl, rfl⟩ : b = b' ∧ off = off' := by simpa using e
        exact bs_news hc
      go_wp2_with (first
        | (at_builtin; refine wpList_append_lies _ rfl (.tmp 22) (.tmp 23) 22 rfl w.heap.size 5 i0 (.int .u8 0) 1 1 Tryd.underlying22 hi hz0 hz1 hz2 rfl (by decide) (.slice none 0 0) 0 [] rfl (World.ownsRow_nil _ _ _ _) ⟨b, off, none⟩ n c (zs.map encB) rfl (by rw [List.length_map, Nat.mul_one]; exact HN.out.symm) (HNEW.out _ HB.out) (encB_one zs) h0 hn1 hn2 hbs _ rfl ?_; intro g4 c4 w4 hown4 hgrow4 _ hlt4; have HB4 : Hid (Below w.heap.size w w4) := Lib.hid (HB.out.grown hgrow4 hbs (fun k e => by cases e)); simp only [Nat.zero_add, List.nil_append] at hown4; have HO4 := Lib.hid hown4; clear hown4 hgrow4)
        | (at_builtin; go_must (refine wpList_append_lies _ rfl (.tmp 25) (.tmp 26) 22 rfl w.heap.size 5 i0 (.int .u8 0) 1 1 Tryd.underlying22 hi hz0 hz1 hz2 rfl (by decide) (.slice none 0 0) 0 [] rfl (World.ownsRow_nil _ _ _ _) ⟨b, off, none⟩ n c (zs.map encB) rfl (by rw [List.length_map, Nat.mul_one]; exact HN.out.symm) (HNEW.out _ HB4.out) (encB_one zs) h0 hn1 hn2 HB4.out.size _ rfl ?_; intro g5 c5 w5 hown5 hgrow5 hor5 hlt5; have HB5 : Hid (Below w.heap.size w w5) := Lib.hid (HB4.out.grown hgrow5 HB4.out.size (fun k e => by cases e)); simp only [Nat.zero_add, List.nil_append] at hown5; have HO5 := Lib.hid hown5; have HO45 : Hid (w5.ownsRow w.heap.size 5 1 (.slice (some ⟨g4, 0, none⟩) n c4) n (zs.map encB)) := Lib.hid (HO4.out.kept hgrow5 (.inr (by simp [Value.ownBlock]))); have HNE : Hid (g4 ≠ g5) := Lib.hid (by (rcases hor5 with h | h; (cases h); omega)); clear hown5 hgrow5 hor5)))
      obtain ⟨wx, rfl⟩ : ∃ wx : World, wx = w5 := ⟨_, rfl⟩
      go_loopw [4, 5] (fun v4 v5 W => ∃ (j a4 k4 a5 k5 : Nat), n ≤ j ∧ j ≤ m ∧ v4 = .slice (some ⟨a4, 0, none⟩) j k4 ∧ v5 = .slice (some ⟨a5, 0, none⟩) j k5 ∧ Hid (W.ownsRow w.heap.size 5 1 (.slice (some ⟨a4, 0, none⟩) j k4) j ((padL zs j 128).map encB)) ∧ Hid (W.ownsRow w.heap.size 5 1 (.slice (some ⟨a5, 0, none⟩) j k5) j ((padL zs j 191).map encB)) ∧ Hid (a4 ≠ a5) ∧ Hid (Below w.heap.size w W)) (fun v4 _ _ => m - (match v4 with | .slice _ j _ => j | _ => 0))
      case atStart => exact ⟨n, g4, c4, g5, c5, Nat.le_refl _, by omega, rfl, rfl, Lib.hid (by rw [HN.out, padL_0, ← HN.out]; exact HO45.out), Lib.hid (by rw [HN.out, padL_0, ← HN.out]; exact HO5.out), HNE, HB5⟩
      case round =>
        obtain ⟨j, a4, k4, a5, k5, hnj, hjm, rfl, rfl, O4, O5, NE, HBW⟩ := hrel
        by_cases hlt : j < m
        · have hji : (j : Int) < m := by omega
          have hj1 : j + 1 ≤ maxLen := by unfold maxLen; omega
          have hj2 : (j + 1) * 1 ≤ 140737488355328 := by omega
          have HBS : Hid (∀ (W : World) (o : Obj), Below w.heap.size w W → w.heap.size ≤ (W.alloc o).heap.size) := Lib.hid fun W o hW => by have := hW.size; simp; omega
          go_wp2_with (first
            | (at_builtin; refine wpList_append_lies _ rfl (.tmp 32) (.tmp 33) 22 rfl w.heap.size 5 i0 (.int .u8 0) 1 1 Tryd.underlying22 hi hz0 hz1 hz2 rfl (by decide) (.slice (some ⟨a4, 0, none⟩) j k4) j ((padL zs j 128).map encB) rfl (O4.out.alloc _) ⟨wr.heap.size, 0, none⟩ 1 1 [.int .u8 128] rfl rfl (cell_one_new _ _ _) (by simp [Value.oneCell']) (by decide) hj1 hj2 (HBS.out _ _ HBW.out) _ rfl ?_; intro g6 c6 w6 hown6 hgrow6 hor6 hlt6; have HBX : Hid (Below w.heap.size w w6) := Lib.hid ((HBW.out.alloc HBW.out.size _).grown hgrow6 (HBS.out _ _ HBW.out) (fun k e => (O4.out.lt k e).1)); obtain ⟨hO5, hne6⟩ := side_row O5.out NE.out hgrow6 hor6; have O6 := Lib.hid hown6; have O5' := Lib.hid hO5; have NE6 := Lib.hid hne6; clear hown6 hgrow6 hor6 hO5 hne6)
            | (at_builtin; go_must (refine wpList_append_lies _ rfl (.tmp 35) (.tmp 36) 22 rfl w.heap.size 5 i0 (.int .u8 0) 1 1 Tryd.underlying22 hi hz0 hz1 hz2 rfl (by decide) (.slice (some ⟨a5, 0, none⟩) j k5) j ((padL zs j 191).map encB) rfl (O5'.out.alloc _) ⟨w6.heap.size, 0, none⟩ 1 1 [.int .u8 191] rfl rfl (cell_one_new _ _ _) (by simp [Value.oneCell']) (by decide) hj1 hj2 (HBS.out _ _ HBX.out) _ rfl ?_; intro g7 c7 w7 hown7 hgrow7 hor7 hlt7; have HBY : Hid (Below w.heap.size w w7) := Lib.hid ((HBX.out.alloc HBX.out.size _).grown hgrow7 (HBS.out _ _ HBX.out) (fun k e => (O5'.out.lt k e).1)); obtain ⟨hO6, hne7⟩ := side_row O6.out NE6.out.symm hgrow7 hor7; have O7 := Lib.hid hown7; have O6' := Lib.hid hO6; have NE7 := Lib.hid hne7; clear hown7 hgrow7 hor7 hO6 hne7)))
          go_roundw
          case rel => exact ⟨j + 1, g6, c6, g7, c7, by omega, by omega, rfl, rfl, Lib.hid (by rw [padL_succ zs j 128 (by rw [← HN.out]; exact hnj), List.map_append]; exact O6'.out), Lib.hid (by rw [padL_succ zs j 191 (by rw [← HN.out]; exact hnj), List.map_append]; exact O7.out), Lib.hid NE7.out.symm, HBY⟩
          case measure => simp; omega
        · obtain rfl : j = m := by omega
          have hmm : j = 2 ∨ j = 3 ∨ j = 4 := by omega
          have hz8 := HR.out.1
          have hl4 : (padL zs j 128).length = j := padL_len zs j 128 (by rw [← HN.out]; exact hnj)
          have hl5 : (padL zs j 191).length = j := padL_len zs j 191 (by rw [← HN.out]; exact hnj)
          have hN4 := number_any (some ⟨a4, 0, none⟩) (padL zs j 128) j k4 hl4.symm wr (BS.of_own (pad_lt hz8 _ _ (by decide)) O4.out)
          have HN5 : Hid (∀ W, Below wr.heap.size wr W → Calls Tryd.prog 27 #[.slice (some ⟨a5, 0, none⟩) j k5] W fun e w' => e = .returned (.int .i32 (numZ (padL zs j 191))) ∧ Below W.heap.size W w') := Lib.hid fun W hW =>
            number_any (some ⟨a5, 0, none⟩) (padL zs j 191) j k5 hl5.symm W (((BS.of_own (pad_lt hz8 _ _ (by decide)) O5.out).below hW).more hW.size)
          have HAT : Hid (begAt j zs = begTest (numZ (padL zs j 128)) (numZ (padL zs j 191)) (fromZ j) (toZ j)) := Lib.hid rfl
          have HF := Lib.hid (And.intro (from_cell j hmm) (And.intro (from_cell' j hmm) (from_cell'' j hmm)))
          have HT := Lib.hid (And.intro (to_cell j hmm) (And.intro (to_cell' j hmm) (to_cell'' j hmm)))
          have HMM := Lib.hid hmm
          have HKN : Hid (begAt j zs = false → ∀ i, n < i → i < j + 1 → begAt i zs = false) := Lib.hid fun h i h1 h2 => by
            rcases Nat.lt_or_ge i j with h3 | h3
            · exact HK.out i h1 h3
            · obtain rfl : i = j := by omega
              exact h
          have HKY : Hid (begAt j zs = true → begB zs = true) := Lib.hid fun h => List.any_eq_true.2 ⟨j, List.mem_range.2 (by omega), by rw [h, decide_eq_true (by rw [← HN.out]; omega)]; rfl⟩
          clear hl4 hl5 hz8 hmm O4 O5 HK
          generalize numZ (padL zs j 128) = lo at *
          generalize numZ (padL zs j 191) = hi' at *
          by_cases hlo : lo < 0
          · have HX := Lib.hid (HKN.out (HAT.out.trans (decide_eq_false (by omega))))
            go_wp2_with (first | (go_at_call 27; (with_reducible refine hN4.mono ?_); clear hN4; rintro e w8 ⟨rfl, hb8⟩) | (go_at_call 27; (with_reducible refine (HN5.out _ hb8).mono ?_); rintro e w9 ⟨rfl, hb9⟩))
            go_roundw
            case rel => exact ⟨j + 1, by omega, by omega, by go_num, HX, Lib.hid (bel0 (bel0 HBW.out hb8) hb9)⟩
            case measure => simp [intOf]; omega
          · by_cases hhi : hi' < 0
            · have HX := Lib.hid (HKN.out (HAT.out.trans (decide_eq_false (by omega))))
              go_wp2_with (first | (go_at_call 27; (with_reducible refine hN4.mono ?_); clear hN4; rintro e w8 ⟨rfl, hb8⟩) | (go_at_call 27; (with_reducible refine (HN5.out _ hb8).mono ?_); rintro e w9 ⟨rfl, hb9⟩))
              go_roundw
              case rel => exact ⟨j + 1, by omega, by omega, by go_num, HX, Lib.hid (bel0 (bel0 HBW.out hb8) hb9)⟩
              case measure => simp [intOf]; omega
            · have hj5 : (j : Int) < 5 := by omega
              obtain ⟨hf, hf', hf''⟩ := HF.out
              obtain ⟨ht, ht', ht''⟩ := HT.out
              go_wp2_with (first | (go_at_call 27; (with_reducible refine hN4.mono ?_); clear hN4; rintro e w8 ⟨rfl, hb8⟩) | (go_at_call 27; (with_reducible refine (HN5.out _ hb8).mono ?_); rintro e w9 ⟨rfl, hb9⟩))
              go_region
              all_goals
                go_wp2
                all_goals first
                  | (have HX := Lib.hid (HKN.out (HAT.out.trans (decide_eq_false (by first | omega | (have hb : (!decide (min hi' (toZ j) ≤ 57343)) = false := (by assumption); simp at hb; omega)))))
                     go_roundw
                     case rel => exact ⟨j + 1, by omega, by omega, by go_num, HX, Lib.hid (((bel0 (bel0 HBW.out hb8) hb9).alloc (bel0 (bel0 HBW.out hb8) hb9).size _).alloc (by have := (bel0 (bel0 HBW.out hb8) hb9).size; simp; omega) _).drew⟩
                     case measure => simp [intOf]; omega)
                  | (have HX := Lib.hid (HKY.out (HAT.out.trans (decide_eq_true (by first | omega | (have hb : (!decide (min hi' (toZ j) ≤ 57343)) = true := (by assumption); simp at hb; omega)))))
                     go_ret
                     exact ⟨by rw [HX.out]; rfl, (((bel0 (bel0 HBW.out hb8) hb9).alloc (bel0 (bel0 HBW.out hb8) hb9).size _).alloc (by have := (bel0 (bel0 HBW.out hb8) hb9).size; simp; omega) _).drew⟩)
    · obtain rfl : m = 5 := by omega
      have HF : Hid (begB zs = false) := Lib.hid (List.any_eq_false.2 fun i hi' => by
        have h5 := List.mem_range.1 hi'
        by_cases hh : n < i
        · rw [HK.out i hh h5]; simp
        · rw [decide_eq_false (by rw [← HN.out]; omega)]; simp)
      go_wp2
      go_ret
      exact ⟨by rw [HF.out]; rfl, HB.out⟩

end Go.Proofs.YtdhmpnjodcjjpaaDoor
