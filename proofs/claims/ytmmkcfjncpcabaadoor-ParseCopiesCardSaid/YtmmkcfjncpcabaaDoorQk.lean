/- The walk of the reference's Begins: do a scalar's bytes begin so, and go on? -/
import Derived.Test.YtmmkcfjncpcabaaDoorQz
import Derived.Test.YtmmkcfjncpcabaaDoorKa
import Derived.Deep.AppendLies
import Derived.Deep.RegionWith
import Derived.Test.YtmmkcfjncpcabaaDoorVp
namespace Go.Proofs.YtmmkcfjncpcabaaDoor
open Go.RowKit Go.Shelf

theorem Tryd.infoByte : (Tryd.prog.info? 5).map (fun i => (i.zero, i.size, i.bytes)) = some (some (.int .u8 0), 1, 1) := by kernel_rfl
def encB (z : Nat) : Value := .int .u8 (z : Nat)
/-- Bytes, filled up to a number of them. -/
def padL (zs : List Nat) (m x : Nat) : List Nat := zs ++ List.replicate (m - zs.length) x
theorem padL_len (zs : List Nat) (m x : Nat) (h : zs.length ≤ m) : (padL zs m x).length = m := by unfold padL; simp; omega
theorem padL_0 (zs : List Nat) (x : Nat) : padL zs zs.length x = zs := by unfold padL; simp
theorem padL_succ (zs : List Nat) (m x : Nat) (h : zs.length ≤ m) : padL zs (m + 1) x = padL zs m x ++ [x] := by
  unfold padL
  rw [show m + 1 - zs.length = (m - zs.length) + 1 by omega, List.replicate_succ', ← List.append_assoc]
def fromZ (m : Nat) : Int := if m = 2 then 128 else if m = 3 then 2048 else 65536
def toZ (m : Nat) : Int := if m = 2 then 2047 else if m = 3 then 65535 else 1114111
def begTest (lo hi f t : Int) : Bool := decide (0 ≤ lo ∧ 0 ≤ hi ∧ max lo f ≤ min hi t ∧ ¬ (55296 ≤ max lo f ∧ min hi t ≤ 57343))
def begAt (m : Nat) (zs : List Nat) : Bool := begTest (numZ_u (padL zs m 128)) (numZ_u (padL zs m 191)) (fromZ m) (toZ m)
/-- Do a scalar's bytes begin so, and go on? -/
def begB (zs : List Nat) : Bool := (List.range 5).any fun m => decide (0 < zs.length ∧ zs.length < m) && begAt m zs

theorem BS.of_own {w : World} {base n c : Nat} {A : Option Addr} {zs : List Nat} (hz : ∀ z ∈ zs, z < 256) (h : w.ownsRow base 5 1 (.slice A n c) n (zs.map encB)) : BS w w.heap.size A zs := ⟨hz, fun hn => by
  have hl : zs.length = n := by have := h.1; simpa using this
  obtain ⟨A', c', e, hA⟩ := own_form_u h
  injection e with e1 _ _
  subst e1
  obtain ⟨g, rfl⟩ := hA (by rw [← hl]; exact List.length_pos_iff.2 hn)
  refine ⟨g, 0, rfl, (h.lt g rfl).2, fun k hk => ?_⟩
  rw [Nat.zero_add, h.cellAt k (by omega), List.getElem?_map, List.getElem?_eq_getElem hk]
  rfl⟩
theorem bs_news {w : World} {b off : Nat} {zs : List Nat} (hc : ∀ k, k < zs.length → w.cell? ⟨b, off + k, none⟩ = some (.int .u8 (zs[k]?.getD 0))) : ∀ (j : Nat) (u : Value), (zs.map encB)[j]? = some u → w.cell? ((⟨b, off, none⟩ : Addr).add j) = some u := fun j u h => by
  rw [show (⟨b, off, none⟩ : Addr).add j = ⟨b, off + j, none⟩ by unfold Addr.add; split <;> simp_all]
  have hj : j < zs.length := by have := (List.getElem?_eq_some_iff.1 h).1; simpa using this
  rw [hc j hj]
  rw [List.getElem?_map, List.getElem?_eq_getElem hj] at h
  rw [List.getElem?_eq_getElem hj]
  exact h
theorem encB_one (zs : List Nat) : ∀ u ∈ zs.map encB, u.oneCell' = true := by
  intro u hu
  obtain ⟨z, _, rfl⟩ := List.mem_map.1 hu
  rfl

theorem side_row {wr w6 : World} {B a4 a5 k5 j g k : Nat} {ys : List Value} {o : Obj} (O5 : wr.ownsRow B 5 1 (.slice (some ⟨a5, 0, none⟩) j k5) k ys) (NE : a4 ≠ a5) (hg : (wr.alloc o).grownBy w6 (some a4)) (hor : some a4 = some g ∨ g = (wr.alloc o).heap.size) :
    w6.ownsRow B 5 1 (.slice (some ⟨a5, 0, none⟩) j k5) k ys ∧ g ≠ a5 := by
  refine ⟨(O5.alloc o).kept hg (.inr (by simp only [Value.ownBlock, ne_eq, Option.some.injEq]; exact fun e => NE e.symm)), ?_⟩
  have := (O5.lt a5 rfl).2
  rcases hor with h | h
  · have : a4 = g := by simpa using h
    omega
  · simp at h
    omega

theorem from_cell (m : Nat) (h : m = 2 ∨ m = 3 ∨ m = 4) (W : World) : (W.alloc (.cells #[.int .i32 0, .int .i32 0, .int .i32 128, .int .i32 2048, .int .i32 65536] 21)).cell? ⟨W.heap.size, m, none⟩ = some (.int .i32 (fromZ m)) := by
  refine (cell_of_row _ _ _ _ _ _ (heap_alloc_new W _)).trans ?_
  rcases h with rfl | rfl | rfl <;> rfl
theorem to_cell (m : Nat) (h : m = 2 ∨ m = 3 ∨ m = 4) (W : World) : (W.alloc (.cells #[.int .i32 0, .int .i32 0, .int .i32 2047, .int .i32 65535, .int .i32 1114111] 21)).cell? ⟨W.heap.size, m, none⟩ = some (.int .i32 (toZ m)) := by
  refine (cell_of_row _ _ _ _ _ _ (heap_alloc_new W _)).trans ?_
  rcases h with rfl | rfl | rfl <;> rfl
theorem from_cell' (m : Nat) (h : m = 2 ∨ m = 3 ∨ m = 4) (W : World) (o : Obj) : ((W.alloc o).alloc (.cells #[.int .i32 0, .int .i32 0, .int .i32 128, .int .i32 2048, .int .i32 65536] 21)).cell? ⟨W.heap.size + 1, m, none⟩ = some (.int .i32 (fromZ m)) := by
  have := from_cell m h (W.alloc o)
  simpa using this
theorem to_cell' (m : Nat) (h : m = 2 ∨ m = 3 ∨ m = 4) (W : World) (o : Obj) : ((W.alloc o).alloc (.cells #[.int .i32 0, .int .i32 0, .int .i32 2047, .int .i32 65535, .int .i32 1114111] 21)).cell? ⟨W.heap.size + 1, m, none⟩ = some (.int .i32 (toZ m)) := by
  have := to_cell m h (W.alloc o)
  simpa using this
theorem from_cell'' (m : Nat) (h : m = 2 ∨ m = 3 ∨ m = 4) (W : World) (o : Obj) : ((W.alloc (.cells #[.int .i32 0, .int .i32 0, .int .i32 128, .int .i32 2048, .int .i32 65536] 21)).alloc o).cell? ⟨W.heap.size, m, none⟩ = some (.int .i32 (fromZ m)) :=
  (((Below.refl _ _).alloc (Nat.le_refl _) o).cell (p := ⟨W.heap.size, m, none⟩) (by simp)).trans (from_cell m h W)
theorem to_cell'' (m : Nat) (h : m = 2 ∨ m = 3 ∨ m = 4) (W : World) (o : Obj) : ((W.alloc (.cells #[.int .i32 0, .int .i32 0, .int .i32 2047, .int .i32 65535, .int .i32 1114111] 21)).alloc o).cell? ⟨W.heap.size, m, none⟩ = some (.int .i32 (toZ m)) :=
  (((Below.refl _ _).alloc (Nat.le_refl _) o).cell (p := ⟨W.heap.size, m, none⟩) (by simp)).trans (to_cell m h W)
theorem pad_lt {zs : List Nat} (hz : ∀ z ∈ zs, z < 256) (m x : Nat) (hx : x < 256) : ∀ z ∈ padL zs m x, z < 256 := by
  intro z h
  rcases List.mem_append.1 h with h | h
  · exact hz z h
  · have := List.eq_of_mem_replicate h; omega

set_option maxRecDepth 100000 in
set_option maxHeartbeats 4000000 in
theorem begins_any_u (b off : Nat) (zs : List Nat) (n c : Nat) (hn : n = zs.length) (h0 : 0 < n) (h3 : n ≤ 3) (w : World) (hR : BS w w.heap.size (some ⟨b, off, none⟩) zs) :
    Calls Tryd.prog 28 #[.slice (some ⟨b, off, none⟩) n c] w fun e w' => e = .returned (.bool (begB zs)) ∧ Below w.heap.size w w' := by
  obtain ⟨i0, hi, hz0, hz1, hz2⟩ := info_parts Tryd.infoByte
  have HR := Lib.hid hR
  have HN := Lib.hid hn
  have hnl : (0 : Int) < n := by omega
  clear hR hn
  go_enter Tryd.func28, Tryd.ntmps28
  go_wp2
  go_loopw [3] (fun i wr => ∃ m : Nat, n < m ∧ m ≤ 5 ∧ i = .int .i64 m ∧ Hid (∀ j, n < j → j < m → begAt j zs = false) ∧ Hid (Below w.heap.size w wr)) (fun i _ => 5 - (intOf i).toNat)
  case atStart => exact ⟨n + 1, by omega, by omega, by go_num, Lib.hid (fun j h1 h2 => by omega), Lib.hid (Below.refl _ _)⟩
  case round =>
    obtain ⟨m, hm0, hm5, rfl, HK, HB⟩ := hrel
    by_cases hm4 : m ≤ 4
    · have hm1 : (m : Int) ≤ 4 := by omega
      have hn1 : 0 + n ≤ maxLen := by unfold maxLen; omega
      have hn2 : (0 + n) * 1 ≤ 140737488355328 := by omega
      have hbs := HB.out.size
      have HNEW : Hid (∀ W, Below w.heap.size w W → ∀ (j : Nat) (u : Value), (zs.map encB)[j]? = some u → W.cell? ((⟨b, off, none⟩ : Addr).add j) = some u) := Lib.hid fun W hW => by
        obtain ⟨b', off', e, _, hc⟩ := (HR.out.below hW).2 (by rintro rfl; have := HN.out; simp at this; omega)
        obtain ⟨rfl, rfl⟩ : b = b' ∧ off = off' := by simpa using e
        exact bs_news hc
      go_wp2_with (first
        | (at_builtin; refine wpList_append_lies _ rfl (.tmp 22) (.tmp 23) 22 rfl w.heap.size 5 i0 (.int .u8 0) 1 1 Tryd.underlying22 hi hz0 hz1 hz2 rfl (by decide) (.slice none 0 0) 0 [] rfl (World.ownsRow_nil _ _ _ _) ⟨b, off, none⟩ n c (zs.map encB) rfl (by rw [List.length_map, Nat.mul_one]; exact HN.out.symm) (HNEW.out _ HB.out) (encB_one zs) h0 hn1 hn2 hbs _ rfl ?_; intro g4 c4 w4 hown4 hgrow4 _ hlt4; have HB4 : Hid (Below w.heap.size w w4) := Lib.hid (HB.out.grown hgrow4 hbs (fun k e => by cases e)); simp only [Nat.zero_add, List.nil_append] at hown4; have HO4 := Lib.hid hown4; clear hown4 hgrow4)
        | (at_builtin; go_must (refine wpList_append_lies _ rfl (.tmp 25) (.tmp 26) 22 rfl w.heap.size 5 i0 (.int .u8 0) 1 1 Tryd.underlying22 hi hz0 hz1 hz2 rfl (by decide) (.slice none 0 0) 0 [] rfl (World.ownsRow_nil _ _ _ _) ⟨b, off, none⟩ n c (zs.map encB) rfl (by rw [List.length_map, Nat.mul_one]; exact HN.out.symm) (HNEW.out _ HB4.out) (encB_one zs) h0 hn1 hn2 HB4.out.size _ rfl ?_; intro g5 c5 w5 hown5 hgrow5 hor5 hlt5; have HB5 : Hid (Below w.heap.size w w5) := Lib.hid (HB4.out.grown hgrow5 HB4.out.size (fun k e => by cases e)); simp only [Nat.zero_add, List.nil_append] at hown5; have HO5 := Lib.hid hown5; have HO45 : Hid (w5.ownsRow w.heap.size 5 1 (.slice (some ⟨g4, 0, none⟩) n c4) n (zs.map encB)) := Lib.hid (HO4.out.kept hgrow5 (.inr (by simp [Value.ownBlock]))); have HNE : Hid (g4 ≠ g5) := Lib.hid (by (rcases hor5 with h | h; (cases h); omega)); clear hown5 hgrow5 hor5)))
      obtain ⟨wx, rfl⟩ : ∃ wx : World, wx = w5 := ⟨_, rfl⟩
      go_loopw [4, 5] (fun v4 v5 W => ∃ (j a4 k4 a5 k5 : Nat), n ≤ j ∧ j ≤ m ∧ v4 = .slice (some ⟨a4, 0, none⟩) j k4 ∧ v5 = .slice (some ⟨a5, 0, none⟩) j k5 ∧ Hid (W.ownsRow w.heap.size 5 1 (.slice (some ⟨a4, 0, none⟩) j k4) j ((padL zs j 128).map encB)) ∧ Hid (W.ownsRow w.heap.size 5 1 (.slice (some ⟨a5, 0, none⟩) j k5) j ((padL zs j 191).map encB)) ∧ Hid (a4 ≠ a5) ∧ Hid (Below w.heap.size w W)) (fun v4 _ _ => m - (match v4 with | .slice _ j _ => j | _ => 0))
      case atStart => exact ⟨n, g4, c4, g5, c5, Nat.le_refl _, by omega, rfl, rfl, Lib.hid (by rw [HN.out, padL_0, ← HN.out]; exact HO45.out), Lib.hid (by rw [HN.out, padL_0, ← HN.out]; exact HO5.out), HNE, HB5⟩
      case round =>
        obtain ⟨j, a4, k4, a5, k5, hnj, hjm, rfl, rfl, O4, O5, NE, HBW⟩ := hrel
        by_cases hlt : j < m
        · have hji : (j : Int) < m := by omega
          have hj1 : j + 1 ≤ maxLen := by unfold maxLen; omega
          have hj2 : (j + 1) * 1 ≤ 140737488355328 := by omega
          have HBS : Hid (∀ (W : World) (o : Obj), Below w.heap.size w W → w.heap.size ≤ (W.alloc o).heap.size) := Lib.hid fun W o hW => by have := hW.size; simp; omega
          go_wp2_with (first
            | (at_builtin; refine wpList_append_lies _ rfl (.tmp 32) (.tmp 33) 22 rfl w.heap.size 5 i0 (.int .u8 0) 1 1 Tryd.underlying22 hi hz0 hz1 hz2 rfl (by decide) (.slice (some ⟨a4, 0, none⟩) j k4) j ((padL zs j 128).map encB) rfl (O4.out.alloc _) ⟨wr.heap.size, 0, none⟩ 1 1 [.int .u8 128] rfl rfl (cell_one_new _ _ _) (by simp [Value.oneCell']) (by decide) hj1 hj2 (HBS.out _ _ HBW.out) _ rfl ?_; intro g6 c6 w6 hown6 hgrow6 hor6 hlt6; have HBX : Hid (Below w.heap.size w w6) := Lib.hid ((HBW.out.alloc HBW.out.size _).grown hgrow6 (HBS.out _ _ HBW.out) (fun k e => (O4.out.lt k e).1)); obtain ⟨hO5, hne6⟩ := side_row O5.out NE.out hgrow6 hor6; have O6 := Lib.hid hown6; have O5' := Lib.hid hO5; have NE6 := Lib.hid hne6; clear hown6 hgrow6 hor6 hO5 hne6)
            | (at_builtin; go_must (refine wpList_append_lies _ rfl (.tmp 35) (.tmp 36) 22 rfl w.heap.size 5 i0 (.int .u8 0) 1 1 Tryd.underlying22 hi hz0 hz1 hz2 rfl (by decide) (.slice (some ⟨a5, 0, none⟩) j k5) j ((padL zs j 191).map encB) rfl (O5'.out.alloc _) ⟨w6.heap.size, 0, none⟩ 1 1 [.int .u8 191] rfl rfl (cell_one_new _ _ _) (by simp [Value.oneCell']) (by decide) hj1 hj2 (HBS.out _ _ HBX.out) _ rfl ?_; intro g7 c7 w7 hown7 hgrow7 hor7 hlt7; have HBY : Hid (Below w.heap.size w w7) := Lib.hid ((HBX.out.alloc HBX.out.size _).grown hgrow7 (HBS.out _ _ HBX.out) (fun k e => (O5'.out.lt k e).1)); obtain ⟨hO6, hne7⟩ := side_row O6.out NE6.out.symm hgrow7 hor7; have O7 := Lib.hid hown7; have O6' := Lib.hid hO6; have NE7 := Lib.hid hne7; clear hown7 hgrow7 hor7 hO6 hne7)))
          go_roundw
          case rel => exact ⟨j + 1, g6, c6, g7, c7, by omega, by omega, rfl, rfl, Lib.hid (by rw [padL_succ zs j 128 (by rw [← HN.out]; exact hnj), List.map_append]; exact O6'.out), Lib.hid (by rw [padL_succ zs j 191 (by rw [← HN.out]; exact hnj), List.map_append]; exact O7.out), Lib.hid NE7.out.symm, HBY⟩
          case measure => simp; omega
        · obtain rfl : j = m := by omega
          have hmm : j = 2 ∨ j = 3 ∨ j = 4 := by omega
          have hz8 := HR.out.1
          have hl4 : (padL zs j 128).length = j := padL_len zs j 128 (by rw [← HN.out]; exact hnj)
          have hl5 : (padL zs j 191).length = j := padL_len zs j 191 (by rw [← HN.out]; exact hnj)
          have hN4 := number_any_u (some ⟨a4, 0, none⟩) (padL zs j 128) j k4 hl4.symm wr (BS.of_own (pad_lt hz8 _ _ (by decide)) O4.out)
          have HN5 : Hid (∀ W, Below wr.heap.size wr W → Calls Tryd.prog 39 #[.slice (some ⟨a5, 0, none⟩) j k5] W fun e w' => e = .returned (.int .i32 (numZ_u (padL zs j 191))) ∧ Below W.heap.size W w') := Lib.hid fun W hW =>
            number_any_u (some ⟨a5, 0, none⟩) (padL zs j 191) j k5 hl5.symm W (((BS.of_own (pad_lt hz8 _ _ (by decide)) O5.out).below hW).more hW.size)
          have HAT : Hid (begAt j zs = begTest (numZ_u (padL zs j 128)) (numZ_u (padL zs j 191)) (fromZ j) (toZ j)) := Lib.hid rfl
          have HF := Lib.hid (And.intro (from_cell j hmm) (And.intro (from_cell' j hmm) (from_cell'' j hmm)))
          have HT := Lib.hid (And.intro (to_cell j hmm) (And.intro (to_cell' j hmm) (to_cell'' j hmm)))
          have HMM := Lib.hid hmm
          have HKN : Hid (begAt j zs = false → ∀ i, n < i → i < j + 1 → begAt i zs = false) := Lib.hid fun h i h1 h2 => by
            rcases Nat.lt_or_ge i j with h3 | h3
            · exact HK.out i h1 h3
            · obtain rfl : i = j := by omega
              exact h
          have HKY : Hid (begAt j zs = true → begB zs = true) := Lib.hid fun h => List.any_eq_true.2 ⟨j, List.mem_range.2 (by omega), by rw [h, decide_eq_true (by rw [← HN.out]; omega)]; rfl⟩
          clear hl4 hl5 hz8 hmm O4 O5 HK
          generalize numZ_u (padL zs j 128) = lo at *
          generalize numZ_u (padL zs j 191) = hi' at *
          by_cases hlo : lo < 0
          · have HX := Lib.hid (HKN.out (HAT.out.trans (decide_eq_false (by omega))))
            go_wp2_with (first | (go_at_call 39; (with_reducible refine hN4.mono ?_); clear hN4; rintro e w8 ⟨rfl, hb8⟩) | (go_at_call 39; (with_reducible refine (HN5.out _ hb8).mono ?_); rintro e w9 ⟨rfl, hb9⟩))
            go_roundw
            case rel => exact ⟨j + 1, by omega, by omega, by go_num, HX, Lib.hid (bel0 (bel0 HBW.out hb8) hb9)⟩
            case measure => simp [intOf]; omega
          · by_cases hhi : hi' < 0
            · have HX := Lib.hid (HKN.out (HAT.out.trans (decide_eq_false (by omega))))
              go_wp2_with (first | (go_at_call 39; (with_reducible refine hN4.mono ?_); clear hN4; rintro e w8 ⟨rfl, hb8⟩) | (go_at_call 39; (with_reducible refine (HN5.out _ hb8).mono ?_); rintro e w9 ⟨rfl, hb9⟩))
              go_roundw
              case rel => exact ⟨j + 1, by omega, by omega, by go_num, HX, Lib.hid (bel0 (bel0 HBW.out hb8) hb9)⟩
              case measure => simp [intOf]; omega
            · have hj5 : (j : Int) < 5 := by omega
              obtain ⟨hf, hf', hf''⟩ := HF.out
              obtain ⟨ht, ht', ht''⟩ := HT.out
              go_wp2_with (first | (go_at_call 39; (with_reducible refine hN4.mono ?_); clear hN4; rintro e w8 ⟨rfl, hb8⟩) | (go_at_call 39; (with_reducible refine (HN5.out _ hb8).mono ?_); rintro e w9 ⟨rfl, hb9⟩))
              go_region
              all_goals
                go_wp2
                all_goals first
                  | (have HX := Lib.hid (HKN.out (HAT.out.trans (decide_eq_false (by first | omega | (have hb : (!decide (min hi' (toZ j) ≤ 57343)) = false := (by assumption); simp at hb; omega)))))
                     go_roundw
                     case rel => exact ⟨j + 1, by omega, by omega, by go_num, HX, Lib.hid (((bel0 (bel0 HBW.out hb8) hb9).alloc (bel0 (bel0 HBW.out hb8) hb9).size _).alloc (by have := (bel0 (bel0 HBW.out hb8) hb9).size; simp; omega) _).drew⟩
                     case measure => simp [intOf]; omega)
                  | (have HX := Lib.hid (HKY.out (HAT.out.trans (decide_eq_true (by first | omega | (have hb : (!decide (min hi' (toZ j) ≤ 57343)) = true := (by assumption); simp at hb; omega)))))
                     go_ret
                     exact ⟨by rw [HX.out]; rfl, (((bel0 (bel0 HBW.out hb8) hb9).alloc (bel0 (bel0 HBW.out hb8) hb9).size _).alloc (by have := (bel0 (bel0 HBW.out hb8) hb9).size; simp; omega) _).drew⟩)
    · obtain rfl : m = 5 := by omega
      have HF : Hid (begB zs = false) := Lib.hid (List.any_eq_false.2 fun i hi' => by
        have h5 := List.mem_range.1 hi'
        by_cases hh : n < i
        · rw [HK.out i hh h5]; simp
        · rw [decide_eq_false (by rw [← HN.out]; omega)]; simp)
      go_wp2
      go_ret
      exact ⟨by rw [HF.out]; rfl, HB.out⟩

end Go.Proofs.YtmmkcfjncpcabaaDoor

namespace Go.Proofs.YtmmkcfjncpcabaaDoor
open Go.RowKit

set_option maxRecDepth 100000 in
theorem beg_1 : ∀ a, a < 256 → begB [a] = !fullB [a] := by decide +kernel

theorem firstT_lo {a : Nat} (h : a < 194) : Lib.firstT a % 8 ≤ 1 := by unfold Lib.firstT; (repeat' split) <;> omega
theorem firstT_hi {a : Nat} (h : 244 < a) : Lib.firstT a % 8 ≤ 1 := by unfold Lib.firstT; (repeat' split) <;> omega
theorem firstT_2 {a : Nat} (h : 194 ≤ a) (h' : a < 224) : Lib.firstT a = 2 := by unfold Lib.firstT; (repeat' split) <;> omega
theorem firstT_3 {a : Nat} (h : 225 ≤ a) (h' : a < 240) (hn : a ≠ 237) : Lib.firstT a = 3 := by unfold Lib.firstT; (repeat' split) <;> omega
theorem firstT_4 {a : Nat} (h : 241 ≤ a) (h' : a < 244) : Lib.firstT a = 4 := by unfold Lib.firstT; (repeat' split) <;> omega

theorem begAt_3 (a b : Nat) : begAt 3 [a, b] = begTest (if 224 ≤ a ∧ a < 240 ∧ 128 ≤ b ∧ b ≤ 191 then 4096 * ((a : Int) - 224) + 64 * ((b : Int) - 128) else -1) (if 224 ≤ a ∧ a < 240 ∧ 128 ≤ b ∧ b ≤ 191 then 4096 * ((a : Int) - 224) + 64 * ((b : Int) - 128) + 63 else -1) 2048 65535 := by
  unfold begAt
  rw [show padL [a, b] 3 128 = [a, b, 128] from rfl, show padL [a, b] 3 191 = [a, b, 191] from rfl, numZ_3, numZ_3]
  congr 1 <;> (split <;> split <;> omega)
theorem begAt_4 (a b : Nat) : begAt 4 [a, b] = begTest (if 240 ≤ a ∧ a < 248 ∧ 128 ≤ b ∧ b ≤ 191 then 262144 * ((a : Int) - 240) + 4096 * ((b : Int) - 128) else -1) (if 240 ≤ a ∧ a < 248 ∧ 128 ≤ b ∧ b ≤ 191 then 262144 * ((a : Int) - 240) + 4096 * ((b : Int) - 128) + 4095 else -1) 65536 1114111 := by
  unfold begAt
  rw [show padL [a, b] 4 128 = [a, b, 128, 128] from rfl, show padL [a, b] 4 191 = [a, b, 191, 191] from rfl, numZ_4, numZ_4]
  congr 1 <;> (split <;> split <;> omega)
theorem begAt_43 (a b c : Nat) : begAt 4 [a, b, c] = begTest (if 240 ≤ a ∧ a < 248 ∧ 128 ≤ b ∧ b ≤ 191 ∧ 128 ≤ c ∧ c ≤ 191 then 262144 * ((a : Int) - 240) + 4096 * ((b : Int) - 128) + 64 * ((c : Int) - 128) else -1) (if 240 ≤ a ∧ a < 248 ∧ 128 ≤ b ∧ b ≤ 191 ∧ 128 ≤ c ∧ c ≤ 191 then 262144 * ((a : Int) - 240) + 4096 * ((b : Int) - 128) + 64 * ((c : Int) - 128) + 63 else -1) 65536 1114111 := by
  unfold begAt
  rw [show padL [a, b, c] 4 128 = [a, b, c, 128] from rfl, show padL [a, b, c] 4 191 = [a, b, c, 191] from rfl, numZ_4, numZ_4]
  congr 1 <;> (split <;> split <;> omega)
theorem test_no {lo hi f t : Int} (h : lo < 0) : begTest lo hi f t = false := decide_eq_false (by omega)

/-- When two bytes are a beginning. -/
theorem full_ab (a b : Nat) : fullB [a, b] = decide (Lib.firstT a % 8 ≤ 2 ∨ b < Lib.accLo (Lib.firstT a / 16) ∨ Lib.accHi (Lib.firstT a / 16) < b) := by
  unfold fullB fullN fullX
  simp
theorem full_abc (a b c : Nat) : fullB [a, b, c] = decide (Lib.firstT a % 8 ≤ 3 ∨ (b < Lib.accLo (Lib.firstT a / 16) ∨ Lib.accHi (Lib.firstT a / 16) < b) ∨ (c < 128 ∨ 191 < c)) := by
  unfold fullB fullN fullX
  simp
theorem beg_2 (a b : Nat) (ha : a < 256) : begB [a, b] = !fullB [a, b] := by
  have e : begB [a, b] = (begAt 3 [a, b] || begAt 4 [a, b]) := by simp [begB, List.range_succ]
  rw [e, begAt_3, begAt_4, full_ab]
  rcases (by omega : a < 194 ∨ (194 ≤ a ∧ a < 224) ∨ a = 224 ∨ a = 237 ∨ (225 ≤ a ∧ a < 240 ∧ a ≠ 237) ∨ a = 240 ∨ a = 244 ∨ (241 ≤ a ∧ a < 244) ∨ 244 < a) with h | h | h | h | h | h | h | h | h
  · have := firstT_lo h
    rw [if_neg (by omega), if_neg (by omega), if_neg (by omega), if_neg (by omega), test_no (by decide), test_no (by decide), decide_eq_true (.inl (by omega))]; rfl
  · rw [firstT_2 h.1 h.2, if_neg (by omega), if_neg (by omega), if_neg (by omega), if_neg (by omega), test_no (by decide), test_no (by decide)]; rfl
  · subst h
    rw [show Lib.firstT 224 = 19 from rfl, if_neg (show ¬ (240 ≤ 224 ∧ 224 < 248 ∧ 128 ≤ b ∧ b ≤ 191) by omega), test_no (show (-1 : Int) < 0 by decide), Bool.or_false]
    rw [show Lib.accLo (19 / 16) = 160 from rfl, show Lib.accHi (19 / 16) = 191 from rfl, show 19 % 8 = 3 from rfl]
    by_cases hb : 128 ≤ b ∧ b ≤ 191
    · rw [if_pos (by omega), if_pos (by omega), ← decide_not]
      unfold begTest
      exact decide_eq_decide.2 (by omega)
    · rw [if_neg (by omega), test_no (by decide), decide_eq_true (by omega)]; rfl
  · subst h
    rw [show Lib.firstT 237 = 35 from rfl, if_neg (show ¬ (240 ≤ 237 ∧ 237 < 248 ∧ 128 ≤ b ∧ b ≤ 191) by omega), test_no (show (-1 : Int) < 0 by decide), Bool.or_false]
    rw [show Lib.accLo (35 / 16) = 128 from rfl, show Lib.accHi (35 / 16) = 159 from rfl, show 35 % 8 = 3 from rfl]
    by_cases hb : 128 ≤ b ∧ b ≤ 191
    · rw [if_pos (by omega), if_pos (by omega), ← decide_not]
      unfold begTest
      exact decide_eq_decide.2 (by omega)
    · rw [if_neg (by omega), test_no (by decide), decide_eq_true (by omega)]; rfl
  · rw [firstT_3 h.1 h.2.1 h.2.2, if_neg (show ¬ (240 ≤ a ∧ a < 248 ∧ 128 ≤ b ∧ b ≤ 191) by omega), test_no (show (-1 : Int) < 0 by decide), Bool.or_false]
    rw [show Lib.accLo (3 / 16) = 128 from rfl, show Lib.accHi (3 / 16) = 191 from rfl, show 3 % 8 = 3 from rfl]
    by_cases hb : 128 ≤ b ∧ b ≤ 191
    · rw [if_pos (by omega), if_pos (by omega), ← decide_not]
      unfold begTest
      exact decide_eq_decide.2 (by omega)
    · rw [if_neg (by omega), test_no (by decide), decide_eq_true (by omega)]; rfl
  · subst h
    rw [show Lib.firstT 240 = 52 from rfl, if_neg (show ¬ (224 ≤ 240 ∧ 240 < 240 ∧ 128 ≤ b ∧ b ≤ 191) by omega), test_no (show (-1 : Int) < 0 by decide), Bool.false_or]
    rw [show Lib.accLo (52 / 16) = 144 from rfl, show Lib.accHi (52 / 16) = 191 from rfl, show 52 % 8 = 4 from rfl]
    by_cases hb : 128 ≤ b ∧ b ≤ 191
    · rw [if_pos (by omega), if_pos (by omega), ← decide_not]
      unfold begTest
      exact decide_eq_decide.2 (by omega)
    · rw [if_neg (by omega), test_no (by decide), decide_eq_true (by omega)]; rfl
  · subst h
    rw [show Lib.firstT 244 = 68 from rfl, if_neg (show ¬ (224 ≤ 244 ∧ 244 < 240 ∧ 128 ≤ b ∧ b ≤ 191) by omega), test_no (show (-1 : Int) < 0 by decide), Bool.false_or]
    rw [show Lib.accLo (68 / 16) = 128 from rfl, show Lib.accHi (68 / 16) = 143 from rfl, show 68 % 8 = 4 from rfl]
    by_cases hb : 128 ≤ b ∧ b ≤ 191
    · rw [if_pos (by omega), if_pos (by omega), ← decide_not]
      unfold begTest
      exact decide_eq_decide.2 (by omega)
    · rw [if_neg (by omega), test_no (by decide), decide_eq_true (by omega)]; rfl
  · rw [firstT_4 h.1 h.2, if_neg (show ¬ (224 ≤ a ∧ a < 240 ∧ 128 ≤ b ∧ b ≤ 191) by omega), test_no (show (-1 : Int) < 0 by decide), Bool.false_or]
    rw [show Lib.accLo (4 / 16) = 128 from rfl, show Lib.accHi (4 / 16) = 191 from rfl, show 4 % 8 = 4 from rfl]
    by_cases hb : 128 ≤ b ∧ b ≤ 191
    · rw [if_pos (by omega), if_pos (by omega), ← decide_not]
      unfold begTest
      exact decide_eq_decide.2 (by omega)
    · rw [if_neg (by omega), test_no (by decide), decide_eq_true (by omega)]; rfl
  · have := firstT_hi h
    rw [if_neg (show ¬ (224 ≤ a ∧ a < 240 ∧ 128 ≤ b ∧ b ≤ 191) by omega), test_no (show (-1 : Int) < 0 by decide), Bool.false_or, decide_eq_true (show _ ∨ _ from .inl (by omega))]
    by_cases hb : 240 ≤ a ∧ a < 248 ∧ 128 ≤ b ∧ b ≤ 191
    · rw [if_pos hb, if_pos hb]
      unfold begTest
      exact decide_eq_false (by omega)
    · rw [if_neg hb, test_no (by decide)]; rfl
theorem beg_3 (a b c : Nat) (ha : a < 256) : begB [a, b, c] = !fullB [a, b, c] := by
  have e : begB [a, b, c] = begAt 4 [a, b, c] := by simp [begB, List.range_succ]
  rw [e, begAt_43, full_abc]
  by_cases hc : 128 ≤ c ∧ c ≤ 191
  · rcases (by omega : a < 194 ∨ (194 ≤ a ∧ a < 224) ∨ a = 224 ∨ a = 237 ∨ (225 ≤ a ∧ a < 240 ∧ a ≠ 237) ∨ a = 240 ∨ a = 244 ∨ (241 ≤ a ∧ a < 244) ∨ 244 < a) with h | h | h | h | h | h | h | h | h
    · have := firstT_lo h
      rw [if_neg (by omega), test_no (by decide), decide_eq_true (.inl (by omega))]; rfl
    · rw [firstT_2 h.1 h.2, if_neg (by omega), test_no (by decide)]; rfl
    · subst h
      rw [if_neg (by omega), test_no (by decide), decide_eq_true (.inl (by decide))]; rfl
    · subst h
      rw [if_neg (by omega), test_no (by decide), decide_eq_true (.inl (by decide))]; rfl
    · rw [firstT_3 h.1 h.2.1 h.2.2, if_neg (by omega), test_no (by decide)]; rfl
    · subst h
      rw [show Lib.firstT 240 = 52 from rfl, show Lib.accLo (52 / 16) = 144 from rfl, show Lib.accHi (52 / 16) = 191 from rfl, show 52 % 8 = 4 from rfl]
      by_cases hb : 128 ≤ b ∧ b ≤ 191
      · rw [if_pos (by omega), if_pos (by omega), ← decide_not]
        unfold begTest
        exact decide_eq_decide.2 (by omega)
      · rw [if_neg (by omega), test_no (by decide), decide_eq_true (by omega)]; rfl
    · subst h
      rw [show Lib.firstT 244 = 68 from rfl, show Lib.accLo (68 / 16) = 128 from rfl, show Lib.accHi (68 / 16) = 143 from rfl, show 68 % 8 = 4 from rfl]
      by_cases hb : 128 ≤ b ∧ b ≤ 191
      · rw [if_pos (by omega), if_pos (by omega), ← decide_not]
        unfold begTest
        exact decide_eq_decide.2 (by omega)
      · rw [if_neg (by omega), test_no (by decide), decide_eq_true (by omega)]; rfl
    · rw [firstT_4 h.1 h.2, show Lib.accLo (4 / 16) = 128 from rfl, show Lib.accHi (4 / 16) = 191 from rfl, show 4 % 8 = 4 from rfl]
      by_cases hb : 128 ≤ b ∧ b ≤ 191
      · rw [if_pos (by omega), if_pos (by omega), ← decide_not]
        unfold begTest
        exact decide_eq_decide.2 (by omega)
      · rw [if_neg (by omega), test_no (by decide), decide_eq_true (by omega)]; rfl
    · have := firstT_hi h
      rw [decide_eq_true (show _ ∨ _ from .inl (by omega))]
      by_cases hb : 240 ≤ a ∧ a < 248 ∧ 128 ≤ b ∧ b ≤ 191 ∧ 128 ≤ c ∧ c ≤ 191
      · rw [if_pos hb, if_pos hb]
        unfold begTest
        exact decide_eq_false (by omega)
      · rw [if_neg hb, test_no (by decide)]; rfl
  · rw [if_neg (by omega), test_no (by decide), decide_eq_true (show _ ∨ _ ∨ _ from .inr (.inr (by omega)))]; rfl
/-- The document's Begins. -/
theorem beg_full (zs : List Nat) (h8 : ∀ z ∈ zs, z < 256) (h0 : zs ≠ []) : begB zs = !fullB zs := by
  match zs, h0, h8 with
  | [a], _, h8 => exact beg_1 a (h8 a (by simp))
  | [a, b], _, h8 => exact beg_2 a b (h8 a (by simp))
  | [a, b, c], _, h8 => exact beg_3 a b c (h8 a (by simp))
  | a :: b :: c :: d :: t, _, h8 =>
    have e : fullB (a :: b :: c :: d :: t) = true := by
      cases hq : fullB (a :: b :: c :: d :: t) with
      | true => rfl
      | false => have := full_four _ h8 hq; simp at this
    rw [e]
    refine List.any_eq_false.2 fun m hm => ?_
    have := List.mem_range.1 hm
    rw [decide_eq_false (by simp; omega)]
    simp

end Go.Proofs.YtmmkcfjncpcabaaDoor

namespace Go.Proofs.YtmmkcfjncpcabaaDoor
open Go.RowKit

theorem ab_no {a b x lo hi : Nat} (hx : Lib.firstT a = x) (h8 : 3 ≤ x % 8) (hl : Lib.accLo (x / 16) = lo) (hh : Lib.accHi (x / 16) = hi) (h1 : lo ≤ b) (h2 : b ≤ hi) : fullB [a, b] = false := by
  rw [full_ab, hx, hl, hh]
  exact decide_eq_false (by omega)
theorem abc_no {a b c x lo hi : Nat} (hx : Lib.firstT a = x) (h8 : 4 ≤ x % 8) (hl : Lib.accLo (x / 16) = lo) (hh : Lib.accHi (x / 16) = hi) (h1 : lo ≤ b) (h2 : b ≤ hi) (h3 : 128 ≤ c) (h4 : c ≤ 191) : fullB [a, b, c] = false := by
  rw [full_abc, hx, hl, hh]
  exact decide_eq_false (by omega)
theorem a_no {a x : Nat} (hx : Lib.firstT a = x) (h8 : 2 ≤ x % 8) : fullB [a] = false := by
  unfold fullB fullN fullX
  refine decide_eq_false ?_
  simp [hx]
  omega
/-- What begins a scalar's bytes, and goes on, is a beginning. -/
theorem put_take (r : Int) (h : scalarB r = true) (j : Nat) (h1 : 1 ≤ j) (h2 : j < (putL r).length) : fullB ((putL r).take j) = false := by
  have hsc := of_decide_eq_true h
  obtain ⟨h0, _⟩ := scalarB_bd h
  obtain ⟨n, rfl⟩ := Int.eq_ofNat_of_zero_le h0
  unfold putL at h2 ⊢
  rw [if_pos h] at h2 ⊢
  by_cases a : (n : Int) < 128
  · rw [if_pos a] at h2; simp [putN] at h2; omega
  rw [if_neg a] at h2 ⊢
  by_cases b : (n : Int) < 2048
  · rw [if_pos b] at h2 ⊢
    obtain rfl : j = 1 := by simp [putN] at h2; omega
    simp only [putN, List.take_succ_cons, List.take_zero]
    exact a_no (firstT_2 (by omega) (by omega)) (by decide)
  rw [if_neg b] at h2 ⊢
  by_cases c : (n : Int) < 65536
  · rw [if_pos c] at h2 ⊢
    have hj : j = 1 ∨ j = 2 := by simp [putN] at h2; omega
    rcases (by omega : ((n : Int) / 64 / 64).toNat = 0 ∨ ((n : Int) / 64 / 64).toNat = 13 ∨ (1 ≤ ((n : Int) / 64 / 64).toNat ∧ ((n : Int) / 64 / 64).toNat ≤ 15 ∧ ((n : Int) / 64 / 64).toNat ≠ 13)) with e | e | e
    · rcases hj with rfl | rfl <;> simp only [putN, List.take_succ_cons, List.take_zero]
      · exact a_no (x := 19) (by rw [e]; rfl) (by decide)
      · exact ab_no (x := 19) (lo := 160) (hi := 191) (by rw [e]; rfl) (by decide) rfl rfl (by omega) (by omega)
    · rcases hj with rfl | rfl <;> simp only [putN, List.take_succ_cons, List.take_zero]
      · exact a_no (x := 35) (by rw [e]; rfl) (by decide)
      · exact ab_no (x := 35) (lo := 128) (hi := 159) (by rw [e]; rfl) (by decide) rfl rfl (by omega) (by omega)
    · rcases hj with rfl | rfl <;> simp only [putN, List.take_succ_cons, List.take_zero]
      · exact a_no (firstT_3 (by omega) (by omega) (by omega)) (by decide)
      · exact ab_no (lo := 128) (hi := 191) (firstT_3 (by omega) (by omega) (by omega)) (by decide) rfl rfl (by omega) (by omega)
  rw [if_neg c] at h2 ⊢
  have hj : j = 1 ∨ j = 2 ∨ j = 3 := by simp [putN] at h2; omega
  rcases (by omega : ((n : Int) / 64 / 64 / 64).toNat = 0 ∨ ((n : Int) / 64 / 64 / 64).toNat = 4 ∨ (1 ≤ ((n : Int) / 64 / 64 / 64).toNat ∧ ((n : Int) / 64 / 64 / 64).toNat < 4)) with e | e | e
  · rcases hj with rfl | rfl | rfl <;> simp only [putN, List.take_succ_cons, List.take_zero]
    · exact a_no (x := 52) (by rw [e]; rfl) (by decide)
    · exact ab_no (x := 52) (lo := 144) (hi := 191) (by rw [e]; rfl) (by decide) rfl rfl (by omega) (by omega)
    · exact abc_no (x := 52) (lo := 144) (hi := 191) (by rw [e]; rfl) (by decide) rfl rfl (by omega) (by omega) (by omega) (by omega)
  · rcases hj with rfl | rfl | rfl <;> simp only [putN, List.take_succ_cons, List.take_zero]
    · exact a_no (x := 68) (by rw [e]; rfl) (by decide)
    · exact ab_no (x := 68) (lo := 128) (hi := 143) (by rw [e]; rfl) (by decide) rfl rfl (by omega) (by omega)
    · exact abc_no (x := 68) (lo := 128) (hi := 143) (by rw [e]; rfl) (by decide) rfl rfl (by omega) (by omega) (by omega) (by omega)
  · rcases hj with rfl | rfl | rfl <;> simp only [putN, List.take_succ_cons, List.take_zero]
    · exact a_no (firstT_4 (by omega) (by omega)) (by decide)
    · exact ab_no (lo := 128) (hi := 191) (firstT_4 (by omega) (by omega)) (by decide) rfl rfl (by omega) (by omega)
    · exact abc_no (lo := 128) (hi := 191) (firstT_4 (by omega) (by omega)) (by decide) rfl rfl (by omega) (by omega) (by omega) (by omega)

theorem begF_spec (zs : List Nat) : (∀ j, 1 ≤ j → j < begF zs → j < zs.length ∧ fullB (zs.take (j + 1)) = false) ∧ (zs.length ≤ begF zs ∨ fullB (zs.take (begF zs + 1)) = true) := by
  unfold begF
  split
  · rename_i a
    exact ⟨fun j h1 h2 => by omega, a⟩
  rename_i a
  have a1 : ¬ zs.length ≤ 1 := fun h => a (.inl h)
  have a2 : fullB (zs.take 2) = false := by simpa using fun h => a (.inr h)
  split
  · rename_i b
    exact ⟨fun j h1 h2 => by obtain rfl : j = 1 := by omega
                             exact ⟨by omega, a2⟩, b⟩
  rename_i b
  have b1 : ¬ zs.length ≤ 2 := fun h => b (.inl h)
  have b2 : fullB (zs.take 3) = false := by simpa using fun h => b (.inr h)
  split
  · rename_i c
    refine ⟨fun j h1 h2 => ?_, c⟩
    rcases (by omega : j = 1 ∨ j = 2) with rfl | rfl
    · exact ⟨by omega, a2⟩
    · exact ⟨by omega, b2⟩
  rename_i c
  exact absurd (full4 zs (Nat.lt_of_not_le fun h => c (.inl h))) fun h => c (.inr h)
/-- Of what is no beginning: what is read first hangs on nothing behind it. -/
theorem first_more (zs ys : List Nat) (h8 : ∀ z ∈ zs ++ ys, z < 256) (hf : fullB zs = true) : firstF (zs ++ ys) = firstF zs ∧ fullB (zs ++ ys) = true := by
  have hp := fullB_pos hf
  have hz : zs ≠ [] := List.length_pos_iff.1 hp
  have h8' : ∀ z ∈ zs, z < 256 := fun z hz => h8 z (List.mem_append_left _ hz)
  have tk : ∀ j, j ≤ zs.length → (zs ++ ys).take j = zs.take j := fun j hj => by rw [List.take_append_of_le_length hj]
  have fm : ∀ d, fullB ((zs ++ ys).take (zs.length + d)) = true := fun d => by
    induction d with
    | zero => rw [Nat.add_zero, tk _ (Nat.le_refl _), List.take_length]; exact hf
    | succ d ih => exact full_more _ _ ih
  have hfull : fullB (zs ++ ys) = true := by
    have := fm ys.length
    rw [← List.length_append, List.take_length] at this
    exact this
  refine ⟨?_, hfull⟩
  rcases Classical.em (∃ n, 1 ≤ n ∧ n ≤ 4 ∧ n ≤ zs.length ∧ isB (zs.take n) = true) with ⟨n, h1, h2, h3, h4⟩ | hno
  · rw [first_is zs n h3 h4, first_is (zs ++ ys) n (by rw [List.length_append]; omega) (by rw [tk n h3]; exact h4), tk n h3]
  · have hn : ∀ n, 1 ≤ n → n ≤ 4 → n ≤ zs.length → isB (zs.take n) = false := fun n h1 h2 h3 => by
      cases hq : isB (zs.take n) with
      | false => rfl
      | true => exact absurd ⟨n, h1, h2, h3, hq⟩ hno
    have hn2 : ∀ n, 1 ≤ n → n ≤ 4 → n ≤ (zs ++ ys).length → isB ((zs ++ ys).take n) = false := fun n h1 h2 h3 => by
      rcases Nat.lt_or_ge zs.length n with hl | hl
      · cases hq : isB ((zs ++ ys).take n) with
        | false => rfl
        | true =>
          exfalso
          obtain ⟨hs, hp'⟩ := is_some hq
          have e : (putL (numZ_u ((zs ++ ys).take n))).take zs.length = zs := by
            rw [hp', List.take_take, Nat.min_eq_left (by omega), tk _ (Nat.le_refl _), List.take_length]
          have := put_take _ hs zs.length hp (by rw [hp', List.length_take]; omega)
          rw [e, hf] at this
          cases this
      · rw [tk n hl]; exact hn n h1 h2 hl
    rw [first_not zs h8' hz hn, first_not (zs ++ ys) h8 (by simp [hz]) hn2]
    congr 1
    obtain ⟨s1, s2⟩ := begF_spec zs
    have hb1 : 1 ≤ begF zs := by unfold begF; (repeat' split) <;> omega
    refine (begF_is (zs ++ ys) (begF zs) hb1 (fun j h1 h2 => ?_) ?_).symm
    · have := s1 j h1 h2
      exact ⟨by rw [List.length_append]; omega, by rw [tk _ (by omega)]; exact this.2⟩
    · rcases s2 with h | h
      · right
        have e : begF zs + 1 = zs.length + (begF zs + 1 - zs.length) := by omega
        rw [e]; exact fm _
      · by_cases hl : begF zs + 1 ≤ zs.length
        · rw [tk _ hl]; exact .inr h
        · right
          have e : begF zs + 1 = zs.length + (begF zs + 1 - zs.length) := by omega
          rw [e]; exact fm _

end Go.Proofs.YtmmkcfjncpcabaaDoor

namespace Go.Proofs.YtmmkcfjncpcabaaDoor
open Go.RowKit

/-- What a part of the document's run tells: events, a state and what is held (where the bytes end in it), and how many bytes it takes. -/
structure RX where
  es : List PE
  st : Int
  hd : Nat
  n : Nat
def RX.up (k : Nat) (r : RX) : RX := { r with n := r.n + k }
def RX.cons (e : PE) (r : RX) : RX := { r with es := e :: r.es, n := r.n + 1 }
def stopB (c : Nat) : Bool := decide (c = 24 ∨ c = 26 ∨ c = 27)
def oscE' (m : Nat) (acc : List UInt8) : PE := ⟨4, 0, 0, 0, [], ⟨#[]⟩, bsB (acc.take m), decide (m < acc.length)⟩
def cmdR (m : Nat) : List UInt8 → List Nat → RX
  | acc, [] => ⟨[], 4, min acc.length m, 0⟩
  | acc, c :: xs => if c = 24 ∨ c = 26 then ⟨[], 0, 0, 0⟩ else if c = 7 ∨ c = 27 then ⟨[oscE' m acc], 0, 0, if c = 7 then 1 else 0⟩
    else if 32 ≤ c ∧ ¬ c = 127 then (cmdR m (acc ++ [UInt8.ofNat c]) xs).up 1 else (cmdR m acc xs).up 1
def strR : List Nat → RX
  | [] => ⟨[], 5, 0, 0⟩
  | c :: xs => if stopB c = true then ⟨[], 5, 0, 0⟩ else (strR xs).up 1
/-- The prefix, the numbers and the bytes between of a head, if it is none that is wrong. -/
def partsP (acc : List UInt8) : Option (Int × List UInt8 × List UInt8) :=
  let pt : Int × List UInt8 := match acc with
    | [] => (0, [])
    | x :: t => if 60 ≤ x.toNat then ((x.toNat : Int), t) else (0, x :: t)
  let h := pt.2.takeWhile headB
  let i := pt.2.drop h.length
  if i.all (fun x => decide (x.toNat ≤ 47)) = true ∧ h.length ≤ 256 ∧ i.length ≤ 2 then some (pt.1, h, i) else none
def heldQ (acc : List UInt8) : Nat := match partsP acc with
  | none => 0
  | some (_, h, i) => h.length + i.length
def csiE' (acc : List UInt8) (x : Int) : List PE := match partsP acc with
  | none => []
  | some (p, h, i) => [⟨3, 0, x, p, HZ h, bsB i, ⟨#[]⟩, false⟩]
def dcsE' (m : Nat) (acc : List UInt8) (x : Int) (pay : List UInt8) : List PE := match partsP acc with
  | none => []
  | some (p, h, i) => [⟨5, 0, x, p, HZ h, bsB i, bsB (pay.take m), decide (m < pay.length)⟩]
def heldD (m : Nat) (acc pay : List UInt8) : Nat := match partsP acc with
  | none => 0
  | some (_, h, i) => h.length + i.length + min pay.length m
def payR (m : Nat) (acc : List UInt8) (last : Int) : List UInt8 → List Nat → RX
  | pay, [] => ⟨[], 3, heldD m acc pay, 0⟩
  | pay, c :: xs => if stopB c = true then ⟨if c = 27 then dcsE' m acc last pay else [], 0, 0, 0⟩ else (payR m acc last (pay ++ [UInt8.ofNat c]) xs).up 1
def seqR (m : Nat) (dev : Bool) : List UInt8 → List Nat → RX
  | acc, [] => ⟨[], if dev = true then 3 else 2, heldQ acc, 0⟩
  | acc, c :: xs => if 128 ≤ c ∨ stopB c = true then ⟨[], 0, 0, 0⟩ else if c = 127 ∨ c < 32 ∧ dev = true then (seqR m dev acc xs).up 1
    else if c < 32 then (seqR m dev acc xs).cons (execP c) else if c < 64 then (seqR m dev (acc ++ [UInt8.ofNat c]) xs).up 1
    else if dev = true then (payR m acc c [] xs).up 1 else ⟨csiE' acc c, 0, 0, 1⟩
def lastR (m : Nat) (c : Int) (xs : List Nat) : RX :=
  if c = 91 then seqR m false [] xs else if c = 80 then seqR m true [] xs else if c = 93 then cmdR m [] xs else if c = 88 ∨ c = 94 ∨ c = 95 then strR xs else ⟨[escPE c []], 0, 0, 0⟩
def escR (m : Nat) : List UInt8 → List Nat → RX
  | inter, [] => ⟨[], 1, if inter.length ≤ 2 then inter.length else 0, 0⟩
  | inter, c :: xs => if 128 ≤ c ∨ stopB c = true then ⟨[], 0, 0, 0⟩ else if c < 32 then (escR m inter xs).cons (execP c) else if c = 127 then (escR m inter xs).up 1
    else if c < 48 then (escR m (inter ++ [UInt8.ofNat c]) xs).up 1 else if inter = [] then (lastR m c xs).up 1
    else ⟨if inter.length ≤ 2 then [escPE c inter] else [], 0, 0, 1⟩
def restR (m : Nat) (xs : List Nat) : RX :=
  let c : Nat := xs[0]?.getD 0
  let f := firstF xs
  if c = 27 then (escR m [] xs.tail).up 1 else if c < 32 then ⟨[execP c], 0, 0, 1⟩
  else if f.2 = xs.length ∧ fullB xs = false then ⟨[], 0, f.2, xs.length⟩
  else if f.1 = 127 then ⟨[], 0, 0, f.2⟩ else if 128 ≤ f.1 ∧ f.1 ≤ 159 then (lastR m ((f.1 : Int) - 64) (xs.drop f.2)).up f.2 else ⟨[printP f.1], 0, 0, f.2⟩
def ofR (m : Nat) : Nat → List Nat → List PE × Int × Nat
  | 0, _ => ([], 0, 0)
  | f + 1, xs => if xs = [] then ([], 0, 0) else if xs.length ≤ (restR m xs).n then ((restR m xs).es, (restR m xs).st, (restR m xs).hd)
    else ((restR m xs).es ++ (ofR m f (xs.drop (restR m xs).n)).1, (ofR m f (xs.drop (restR m xs).n)).2)
def OfR (m : Nat) (xs : List Nat) : List PE × Int × Nat := ofR m xs.length xs
theorem up_n (k : Nat) (r : RX) : (r.up k).n = r.n + k := rfl
theorem cons_n (e : PE) (r : RX) : (r.cons e).n = r.n + 1 := rfl
theorem restR_pos (m : Nat) (xs : List Nat) (h : xs ≠ []) : 1 ≤ (restR m xs).n := by
  have hp := List.length_pos_iff.2 h
  have hb := firstF_bd xs hp
  unfold restR
  simp only
  repeat' split
  all_goals first | exact hp | exact hb.1 | (rw [up_n]; omega) | exact Nat.le_refl _
theorem ofR_fuel (m : Nat) : ∀ (f g : Nat) (xs : List Nat), xs.length ≤ f → xs.length ≤ g → ofR m f xs = ofR m g xs
  | 0, g, xs, h, _ => by
    have : xs = [] := List.length_eq_zero_iff.1 (by omega)
    subst this
    cases g <;> rfl
  | f + 1, 0, xs, _, h => by
    have : xs = [] := List.length_eq_zero_iff.1 (by omega)
    subst this
    rfl
  | f + 1, g + 1, xs, h1, h2 => by
    by_cases he : xs = []
    · subst he; rfl
    · have hp := restR_pos m xs he
      have hl := List.length_pos_iff.2 he
      have := ofR_fuel m f g (xs.drop (restR m xs).n) (by rw [List.length_drop]; omega) (by rw [List.length_drop]; omega)
      simp only [ofR, this]
theorem OfR_nil (m : Nat) : OfR m [] = ([], 0, 0) := rfl
/-- Behind a part that took some bytes the run goes on. -/
def comb (m : Nat) (r : RX) (xs : List Nat) : List PE × Int × Nat :=
  if xs.length ≤ r.n then (r.es, r.st, r.hd) else (r.es ++ (OfR m (xs.drop r.n)).1, (OfR m (xs.drop r.n)).2)
theorem OfR_cons (m : Nat) (xs : List Nat) (h : xs ≠ []) : OfR m xs = comb m (restR m xs) xs := by
  have hp := restR_pos m xs h
  have hl := List.length_pos_iff.2 h
  unfold OfR comb
  obtain ⟨k, hk⟩ : ∃ k, xs.length = k + 1 := ⟨xs.length - 1, by omega⟩
  rw [hk]
  simp only [ofR, if_neg h]
  rw [← hk]
  split
  · rfl
  · unfold OfR
    rw [ofR_fuel m k (xs.drop (restR m xs).n).length (xs.drop (restR m xs).n) (by rw [List.length_drop]; omega) (Nat.le_refl _)]
theorem comb_up (m k : Nat) (r : RX) (xs : List Nat) : comb m (r.up k) xs = comb m r (xs.drop k) := by
  unfold comb RX.up
  simp only [List.length_drop, List.drop_drop]
  by_cases h : xs.length ≤ r.n + k
  · rw [if_pos h, if_pos (by omega)]
  · rw [if_neg h, if_neg (by omega), Nat.add_comm k]
theorem comb_up1 (m : Nat) (r : RX) (c : Nat) (xs : List Nat) : comb m (r.up 1) (c :: xs) = comb m r xs := comb_up m 1 r (c :: xs)
def pre (l : List PE) (o : List PE × Int × Nat) : List PE × Int × Nat := (l ++ o.1, o.2)
theorem pre_nil (o : List PE × Int × Nat) : pre [] o = o := rfl
theorem pre_pre (l k : List PE) (o : List PE × Int × Nat) : pre l (pre k o) = pre (l ++ k) o := by
  unfold pre
  rw [List.append_assoc]
theorem comb_cons (m : Nat) (e : PE) (r : RX) (c : Nat) (xs : List Nat) : comb m (r.cons e) (c :: xs) = pre [e] (comb m r xs) := by
  unfold comb RX.cons pre
  simp only [List.length_cons, List.drop_succ_cons]
  by_cases h : xs.length ≤ r.n
  · rw [if_pos (by omega), if_pos h]; rfl
  · rw [if_neg (by omega), if_neg h]; rfl
/-- A part that ends. -/
theorem comb_end (m : Nat) (es : List PE) (k : Nat) (xs : List Nat) : comb m ⟨es, 0, 0, k⟩ xs = pre es (OfR m (xs.drop k)) := by
  unfold comb pre
  simp only
  by_cases hk : xs.length ≤ k
  · rw [if_pos hk, List.drop_of_length_le hk, OfR_nil, List.append_nil]
  · rw [if_neg hk]
theorem comb_stop (m : Nat) (es : List PE) (st : Int) (hd : Nat) (c : Nat) (xs : List Nat) : comb m ⟨es, st, hd, 0⟩ (c :: xs) = pre es (OfR m (c :: xs)) := by
  unfold comb pre
  rw [if_neg (by simp)]
  rfl
/-- What a parser makes of bytes. -/
def outP (s : PM) (xs : List Nat) : List PE × Int × Nat := ((takesP s (u8s xs)).2, (takesP s (u8s xs)).1.state, heldP (takesP s (u8s xs)).1)
theorem outP_nil (s : PM) : outP s [] = ([], s.state, heldP s) := rfl
theorem outP_cons (s : PM) (c : Nat) (xs : List Nat) : outP s (c :: xs) = pre (takeP s (UInt8.ofNat c)).2 (outP (takeP s (UInt8.ofNat c)).1 xs) := rfl

end Go.Proofs.YtmmkcfjncpcabaaDoor

namespace Go.Proofs.YtmmkcfjncpcabaaDoor
open Go.RowKit

def partsT (p : Int) (t : List UInt8) : Option (Int × List UInt8 × List UInt8) :=
  if (t.drop (t.takeWhile headB).length).all (fun x => decide (x.toNat ≤ 47)) = true ∧ (t.takeWhile headB).length ≤ 256 ∧ (t.drop (t.takeWhile headB).length).length ≤ 2 then some (p, t.takeWhile headB, t.drop (t.takeWhile headB).length) else none
theorem partsP_nil : partsP [] = some (0, [], []) := rfl
theorem partsP_cons (x : UInt8) (t : List UInt8) : partsP (x :: t) = if 60 ≤ x.toNat then partsT x.toNat t else partsT 0 (x :: t) := by
  unfold partsP partsT
  by_cases h : 60 ≤ x.toNat
  · simp only [if_pos h]
  · simp only [if_neg h]
def partsN (x : UInt8) : Int × List UInt8 × List UInt8 → Option (Int × List UInt8 × List UInt8)
  | (p, h, i) => if headB x = true then (if i = [] ∧ h.length < 256 then some (p, h ++ [x], []) else none) else if x.toNat ≤ 47 then (if i.length < 2 then some (p, h, i ++ [x]) else none) else none
theorem takeWhile_le (t : List UInt8) : (t.takeWhile headB).length ≤ t.length := (List.takeWhile_sublist _).length_le
theorem partsT_snoc (p : Int) (t : List UInt8) (x : UInt8) : partsT p (t ++ [x]) = (partsT p t).bind (partsN x) := by
  have hx : headB x = true ↔ 48 ≤ x.toNat ∧ x.toNat ≤ 59 := by simp [headB]
  by_cases hf : (t.takeWhile headB).length = t.length
  · have e1 : t.takeWhile headB = t := (List.takeWhile_prefix _).eq_of_length hf
    have e2 : (t ++ [x]).takeWhile headB = t ++ [x].takeWhile headB := by rw [List.takeWhile_append, if_pos hf]
    unfold partsT
    rw [e2, e1, List.drop_length]
    cases hb : headB x with
    | true =>
      have e3 : [x].takeWhile headB = [x] := by simp [hb]
      rw [e3, List.drop_length]
      by_cases hl : t.length < 256
      · rw [if_pos ⟨rfl, by simp; omega, by simp⟩, if_pos ⟨rfl, by omega, by simp⟩]
        simp [partsN, hb, hl]
      · rw [if_neg (by simp; omega)]
        by_cases hl2 : t.length ≤ 256
        · rw [if_pos ⟨rfl, hl2, by simp⟩]
          simp [partsN, hb]
          omega
        · rw [if_neg (by simp; omega)]
          rfl
    | false =>
      have e3 : [x].takeWhile headB = [] := by simp [hb]
      have hnx : ¬ (48 ≤ x.toNat ∧ x.toNat ≤ 59) := fun h => by rw [hx.2 h] at hb; cases hb
      rw [e3, List.append_nil, List.drop_left]
      by_cases hl : t.length ≤ 256
      · rw [if_pos (c := ([] : List UInt8).all _ = true ∧ _) ⟨rfl, hl, by simp⟩]
        by_cases h47 : x.toNat ≤ 47
        · rw [if_pos ⟨by simp [h47], hl, by simp⟩]
          simp [partsN, hb, h47]
        · rw [if_neg (by simp [h47])]
          simp [partsN, hb, h47]
      · rw [if_neg (by omega), if_neg (by omega)]
        rfl
  · have hlt : (t.takeWhile headB).length < t.length := by have := takeWhile_le t; omega
    have e2 : (t ++ [x]).takeWhile headB = t.takeWhile headB := by rw [List.takeWhile_append, if_neg hf]
    unfold partsT
    rw [e2, List.drop_append_of_le_length (Nat.le_of_lt hlt)]
    have hne : t.drop (t.takeWhile headB).length ≠ [] := fun e => by
      have := congrArg List.length e
      rw [List.length_drop, List.length_nil] at this
      omega
    generalize t.drop (t.takeWhile headB).length = i at *
    generalize t.takeWhile headB = h at *
    by_cases hc : i.all (fun x => decide (x.toNat ≤ 47)) = true ∧ h.length ≤ 256 ∧ i.length ≤ 2
    · rw [if_pos hc]
      show _ = partsN x (p, h, i)
      unfold partsN
      cases hb : headB x with
      | true =>
        have := hx.1 hb
        rw [if_neg (by rw [List.all_append]; simp; omega)]
        simp [hne]
      | false =>
        by_cases h47 : x.toNat ≤ 47
        · by_cases hl : i.length < 2
          · rw [if_pos ⟨by rw [List.all_append, hc.1]; simp [h47], hc.2.1, by simp; omega⟩]
            simp [h47, hl]
          · rw [if_neg (by simp; omega)]
            simp [hl]
        · rw [if_neg (by rw [List.all_append]; simp [h47])]
          simp [h47]
    · rw [if_neg hc, if_neg]
      · rfl
      · intro hh
        refine hc ⟨?_, hh.2.1, ?_⟩
        · have := hh.1
          rw [List.all_append, Bool.and_eq_true] at this
          exact this.1
        · have := hh.2.2
          simp at this
          omega
/-- One more byte of a head. -/
theorem partsP_snoc (acc : List UInt8) (x : UInt8) : partsP (acc ++ [x]) = match acc with
    | [] => if 60 ≤ x.toNat then some (x.toNat, [], []) else partsN x (0, [], [])
    | _ :: _ => (partsP acc).bind (partsN x) := by
  cases acc with
  | nil =>
    rw [List.nil_append, partsP_cons]
    by_cases h : 60 ≤ x.toNat
    · rw [if_pos h, if_pos h]
      rfl
    · rw [if_neg h, if_neg h]
      have := partsT_snoc 0 [] x
      rw [List.nil_append] at this
      rw [this]
      rfl
  | cons y t =>
    show partsP (y :: (t ++ [x])) = _
    rw [partsP_cons, partsP_cons]
    by_cases h : 60 ≤ y.toNat
    · rw [if_pos h, if_pos h, partsT_snoc]
    · rw [if_neg h, if_neg h, show y :: (t ++ [x]) = (y :: t) ++ [x] from rfl, partsT_snoc]
theorem partsT_some {p : Int} {t : List UInt8} {q : Int × List UInt8 × List UInt8} (h : partsT p t = some q) : q.1 = p ∧ q.2.1 ++ q.2.2 = t ∧ headL q.2.1 = true ∧ q.2.1.length ≤ 256 ∧ q.2.2.length ≤ 2 := by
  unfold partsT at h
  split at h
  · rename_i hc
    injection h with h
    subst h
    refine ⟨rfl, ?_, ?_, hc.2.1, hc.2.2⟩
    · show t.takeWhile headB ++ t.drop (t.takeWhile headB).length = t
      have h1 : t.takeWhile headB = t.take (t.takeWhile headB).length := (List.prefix_iff_eq_take.1 (List.takeWhile_prefix _))
      conv => lhs; lhs; rw [h1]
      exact List.take_append_drop _ _
    · unfold headL
      exact List.all_takeWhile
  · cases h
theorem partsP_some {acc : List UInt8} {q : Int × List UInt8 × List UInt8} (h : partsP acc = some q) : headL q.2.1 = true ∧ q.2.1.length ≤ 256 ∧ q.2.2.length ≤ 2 ∧ (acc ≠ [] → ¬ (q.1 = 0 ∧ q.2.1 = [] ∧ q.2.2 = [])) := by
  cases acc with
  | nil =>
    rw [partsP_nil] at h
    injection h with h
    subst h
    exact ⟨rfl, Nat.zero_le _, Nat.zero_le _, fun h => absurd rfl h⟩
  | cons x t =>
    rw [partsP_cons] at h
    by_cases hx : 60 ≤ x.toNat
    · rw [if_pos hx] at h
      obtain ⟨h1, h2, h3, h4, h5⟩ := partsT_some h
      exact ⟨h3, h4, h5, fun _ h6 => by rw [h6.1] at h1; omega⟩
    · rw [if_neg hx] at h
      obtain ⟨h1, h2, h3, h4, h5⟩ := partsT_some h
      exact ⟨h3, h4, h5, fun _ h6 => by rw [h6.2.1, h6.2.2] at h2; cases h2⟩
def stD (dev : Bool) : Int := if dev = true then 3 else 2
/-- In a control sequence, or a device string's head. -/
def seqS (m : Nat) (dev : Bool) (acc : List UInt8) : PM := match partsP acc with
  | none => ⟨0, [], [], true, 0, [], false, stD dev, m, []⟩
  | some (p, h, i) => ⟨p, h, i, false, 0, [], false, stD dev, m, []⟩
theorem parP_step (m : Nat) (dev : Bool) (acc : List UInt8) (x : UInt8) (h32 : 32 ≤ x.toNat) (h64 : x.toNat < 64) : parP (seqS m dev acc) x = seqS m dev (acc ++ [x]) := by
  have hx : headB x = true ↔ 48 ≤ x.toNat ∧ x.toNat ≤ 59 := by simp [headB]
  have key : ∀ p h i, partsP acc = some (p, h, i) → ¬ (60 ≤ x.toNat ∧ p = 0 ∧ h = [] ∧ i = []) → parP (seqS m dev acc) x = match partsN x (p, h, i) with
      | none => ⟨0, [], [], true, 0, [], false, stD dev, m, []⟩
      | some (p, h, i) => ⟨p, h, i, false, 0, [], false, stD dev, m, []⟩ := fun p h i e hn => by
    unfold seqS
    rw [e]
    unfold parP betweenP partsN PM.fresh
    simp only [Bool.false_eq_true, if_false]
    by_cases h48 : x.toNat < 48
    · have hb : headB x = false := by
        cases hq : headB x with
        | false => rfl
        | true => have := hx.1 hq; omega
      simp only [if_pos h48, hb, Bool.false_eq_true, if_false, if_pos (show x.toNat ≤ 47 by omega)]
      split <;> rfl
    · simp only [if_neg h48]
      by_cases hi : i = []
      · subst hi
        simp only [ne_eq, not_true_eq_false, if_false]
        by_cases h60 : x.toNat < 60
        · have hb : headB x = true := hx.2 (by omega)
          simp only [if_pos h60, hb, if_true, true_and]
          split <;> rfl
        · have hb : headB x = false := by
            cases hq : headB x with
            | false => rfl
            | true => have := hx.1 hq; omega
          simp only [if_neg h60, hb, Bool.false_eq_true, if_false, if_neg (show ¬ x.toNat ≤ 47 by omega)]
          rw [if_neg (fun hh => hn ⟨by omega, hh.1, hh.2, rfl⟩)]
      · simp only [ne_eq, hi, not_false_eq_true, if_true, false_and, if_false, if_neg (show ¬ x.toNat ≤ 47 by omega)]
        cases headB x <;> rfl
  cases acc with
  | nil =>
    by_cases h60 : 60 ≤ x.toNat
    · unfold seqS
      rw [partsP_nil, partsP_snoc]
      simp only [if_pos h60]
      unfold parP
      simp only [if_neg (show ¬ x.toNat < 48 by omega), Bool.false_eq_true, if_false, ne_eq, not_true_eq_false, if_neg (show ¬ x.toNat < 60 by omega), and_self, if_true]
    · rw [key 0 [] [] partsP_nil (fun hh => h60 hh.1)]
      unfold seqS
      rw [partsP_snoc]
      simp only [if_neg h60]
  | cons y t =>
    cases hp : partsP (y :: t) with
    | none =>
      unfold seqS
      rw [partsP_snoc, hp]
      unfold parP betweenP
      simp
    | some q =>
      obtain ⟨p, h, i⟩ := q
      rw [key p h i hp (fun hh => (partsP_some hp).2.2.2 (by simp) hh.2)]
      unfold seqS
      rw [partsP_snoc, hp]
      rfl

end Go.Proofs.YtmmkcfjncpcabaaDoor

namespace Go.Proofs.YtmmkcfjncpcabaaDoor
open Go.RowKit

theorem u8n (c : Nat) (h : c < 256) : (UInt8.ofNat c).toNat = c := by rw [UInt8.toNat_ofNat']; omega
theorem endP_nil (s : PM) (h : s.ps = []) : endP s = (s, []) := by
  unfold endP readE
  rw [if_pos h]
  simp only [scalP]
  rw [← h]
/-- A byte that ends whatever was begun. -/
theorem take_ends (s : PM) (c : Nat) (h : s.ps = []) (hc : c = 24 ∨ c = 26) : takeP s (UInt8.ofNat c) = (RP s.most [], [execP c]) := by
  unfold takeP
  rw [u8n c (by omega), if_pos hc, endP_nil s h, List.nil_append]
  show (s.at 0, _) = _
  rw [at_rp s h]
theorem take_esc (s : PM) (h : s.ps = []) : takeP s (UInt8.ofNat 27) = (s.at 1, strP s) := by
  unfold takeP
  rw [u8n 27 (by omega), if_neg (by omega), if_pos rfl, endP_nil s h, List.nil_append]
theorem at_at (s : PM) (h : s.ps = []) (k : Int) : s.at k = { RP s.most [] with state := k } := by
  unfold PM.at PM.fresh RP
  rw [h]
/-- What the run makes of the shorter bytes is known. -/
def Sim (m N : Nat) : Prop := ∀ xs : List Nat, xs.length ≤ N → (∀ z ∈ xs, z < 256) → outP (RP m []) xs = OfR m xs
theorem out_ends {m N : Nat} (H : Sim m N) (s : PM) (h : s.ps = []) (hm : s.most = m) (c : Nat) (xs : List Nat) (hc : c = 24 ∨ c = 26) (hl : xs.length + 1 ≤ N) (h8 : ∀ z ∈ c :: xs, z < 256) : outP s (c :: xs) = OfR m (c :: xs) := by
  rw [← H (c :: xs) (by simpa using hl) h8, outP_cons, outP_cons, take_ends s c h hc, take_ends (RP m []) c rfl hc, hm]
  rfl
theorem out_esc {m N : Nat} (H : Sim m N) (s : PM) (h : s.ps = []) (hm : s.most = m) (xs : List Nat) (hl : xs.length + 1 ≤ N) (h8 : ∀ z ∈ 27 :: xs, z < 256) : outP s (27 :: xs) = pre (strP s) (OfR m (27 :: xs)) := by
  rw [← H (27 :: xs) (by simpa using hl) h8, outP_cons, outP_cons, take_esc s h, take_esc (RP m []) rfl, at_at s h, hm]
  rfl
/-- A byte above the controls of seven bits breaks off what was begun. -/
theorem out_high {m N : Nat} (H : Sim m N) (s : PM) (h : s.ps = []) (hm : s.most = m) (c : Nat) (xs : List Nat) (hc : 128 ≤ c) (hs : takeP s (UInt8.ofNat c) = breakP s c) (hl : xs.length + 1 ≤ N) (h8 : ∀ z ∈ c :: xs, z < 256) : outP s (c :: xs) = OfR m (c :: xs) := by
  have hc8 : c < 256 := h8 c (by simp)
  have e : takeP (RP m []) (UInt8.ofNat c) = restP (RP m []) c := by
    unfold takeP
    rw [u8n c hc8, if_neg (by omega), if_neg (by omega)]
    rfl
  rw [← H (c :: xs) (by simpa using hl) h8, outP_cons, outP_cons, hs, e]
  unfold breakP
  rw [at_rp s h, hm]
def cmdS (m : Nat) (acc : List UInt8) : PM := ⟨0, [], [], false, 0, acc.take m, decide (m < acc.length), 4, m, []⟩
theorem take_snocP (m : Nat) (acc : List UInt8) (x : UInt8) : (acc ++ [x]).take m = if acc.length < m then acc ++ [x] else acc.take m := by
  split
  · rw [List.take_of_length_le (by simp; omega)]
  · rw [List.take_append_of_le_length (by omega)]
theorem payP_step (m : Nat) (s : PM) (acc : List UInt8) (x : UInt8) (hw : s.wrong = false) (hm : s.most = m) (hp : s.pay = acc.take m) (hcut : s.cut = decide (m < acc.length)) : payP s x = { s with pay := (acc ++ [x]).take m, cut := decide (m < (acc ++ [x]).length) } := by
  unfold payP
  rw [hw, hm, hp, take_snocP]
  simp only [Bool.false_eq_true, if_false, List.length_take, List.length_append, List.length_singleton]
  by_cases h : acc.length < m
  · rw [if_pos (by omega), if_pos h, List.take_of_length_le (by omega)]
    rw [show decide (m < acc.length + 1) = s.cut by rw [hcut]; simp; omega]
  · rw [if_neg (by omega), if_neg h, ← hp]
    rw [show decide (m < acc.length + 1) = true by simp; omega]
theorem cmd_sim {m N : Nat} (H : Sim m N) : ∀ (xs : List Nat) (acc : List UInt8), xs.length ≤ N → (∀ z ∈ xs, z < 256) → outP (cmdS m acc) xs = comb m (cmdR m acc xs) xs
  | [], acc, _, _ => by
    rw [outP_nil]
    simp [cmdR, comb, cmdS, heldP, Nat.min_comm]
  | c :: xs, acc, hl, h8 => by
    have hl' : xs.length + 1 ≤ N := by simpa using hl
    have hc8 : c < 256 := h8 c (by simp)
    have h8' : ∀ z ∈ xs, z < 256 := fun z hz => h8 z (List.mem_cons_of_mem _ hz)
    unfold cmdR
    by_cases h1 : c = 24 ∨ c = 26
    · rw [if_pos h1, comb_stop, pre_nil, out_ends H (cmdS m acc) rfl rfl c xs h1 hl' h8]
    rw [if_neg h1]
    by_cases h2 : c = 7 ∨ c = 27
    · rw [if_pos h2]
      rcases h2 with rfl | rfl
      · rw [if_pos rfl, comb_end, List.drop_one, List.tail_cons, outP_cons, ← H xs (by omega) h8']
        rfl
      · rw [if_neg (by omega), comb_stop, out_esc H (cmdS m acc) rfl rfl xs hl' h8]
        rfl
    rw [if_neg h2, outP_cons]
    have e : takeP (cmdS m acc) (UInt8.ofNat c) = cmdTakeP (cmdS m acc) (UInt8.ofNat c) := by
      unfold takeP
      rw [u8n c hc8, if_neg h1, if_neg (by omega)]
      rfl
    rw [e]
    unfold cmdTakeP
    rw [u8n c hc8, if_neg (by omega)]
    by_cases h3 : 32 ≤ c ∧ ¬ c = 127
    · rw [if_pos h3, if_neg (by omega), comb_up1, pre_nil, ← cmd_sim H xs (acc ++ [UInt8.ofNat c]) (by omega) h8']
      show outP (payP (cmdS m acc) (UInt8.ofNat c)) xs = _
      rw [payP_step m (cmdS m acc) acc _ rfl rfl rfl rfl]
      rfl
    · rw [if_neg h3, if_pos (by omega), comb_up1, pre_nil, ← cmd_sim H xs acc (by omega) h8']
def strS (m : Nat) : PM := ⟨0, [], [], false, 0, [], false, 5, m, []⟩
theorem str_sim {m N : Nat} (H : Sim m N) : ∀ (xs : List Nat), xs.length ≤ N → (∀ z ∈ xs, z < 256) → outP (strS m) xs = comb m (strR xs) xs
  | [], _, _ => rfl
  | c :: xs, hl, h8 => by
    have hl' : xs.length + 1 ≤ N := by simpa using hl
    have hc8 : c < 256 := h8 c (by simp)
    have h8' : ∀ z ∈ xs, z < 256 := fun z hz => h8 z (List.mem_cons_of_mem _ hz)
    unfold strR
    by_cases h1 : stopB c = true
    · rw [if_pos h1, comb_stop, pre_nil]
      have h1 := of_decide_eq_true h1
      by_cases h2 : c = 27
      · subst h2
        rw [out_esc H (strS m) rfl rfl xs hl' h8]
        rfl
      · rw [out_ends H (strS m) rfl rfl c xs (by omega) hl' h8]
    · have h1' := of_decide_eq_false (show decide (c = 24 ∨ c = 26 ∨ c = 27) = false by simpa [stopB] using h1)
      rw [if_neg h1, comb_up1, outP_cons, ← str_sim H xs (by omega) h8']
      unfold takeP
      rw [u8n c hc8, if_neg (by omega), if_neg (by omega)]
      rfl
def payS (m : Nat) (acc : List UInt8) (last : Int) (pay : List UInt8) : PM := match partsP acc with
  | none => ⟨0, [], [], true, last, [], false, 3, m, []⟩
  | some (p, h, i) => ⟨p, h, i, false, last, pay.take m, decide (m < pay.length), 3, m, []⟩
theorem pay_sim {m N : Nat} (H : Sim m N) (acc : List UInt8) (last : Int) (h0 : ¬ last = 0) : ∀ (xs : List Nat) (pay : List UInt8), xs.length ≤ N → (∀ z ∈ xs, z < 256) → outP (payS m acc last pay) xs = comb m (payR m acc last pay xs) xs
  | [], pay, _, _ => by
    rw [outP_nil]
    unfold payS payR heldD comb
    cases partsP acc with
    | none => rfl
    | some q => simp [heldP, Nat.min_comm]
  | c :: xs, pay, hl, h8 => by
    have hl' : xs.length + 1 ≤ N := by simpa using hl
    have hc8 : c < 256 := h8 c (by simp)
    have h8' : ∀ z ∈ xs, z < 256 := fun z hz => h8 z (List.mem_cons_of_mem _ hz)
    have hps : (payS m acc last pay).ps = [] := by unfold payS; split <;> rfl
    have hms : (payS m acc last pay).most = m := by unfold payS; split <;> rfl
    have hst : (payS m acc last pay).state = 3 := by unfold payS; split <;> rfl
    have hla : (payS m acc last pay).last = last := by unfold payS; split <;> rfl
    unfold payR
    by_cases h1 : stopB c = true
    · rw [if_pos h1, comb_stop]
      have h1 := of_decide_eq_true h1
      by_cases h2 : c = 27
      · subst h2
        rw [if_pos rfl, out_esc H _ hps hms xs hl' h8]
        congr 1
        unfold strP dcsE' payS
        cases partsP acc with
        | none => rfl
        | some q =>
          obtain ⟨p, h, i⟩ := q
          simp [h0, dcsP]
      · rw [if_neg h2, pre_nil, out_ends H _ hps hms c xs (by omega) hl' h8]
    · have h1' := of_decide_eq_false (show decide (c = 24 ∨ c = 26 ∨ c = 27) = false by simpa [stopB] using h1)
      rw [if_neg h1, comb_up1, outP_cons, ← pay_sim H acc last h0 xs (pay ++ [UInt8.ofNat c]) (by omega) h8']
      unfold takeP
      rw [u8n c hc8, if_neg (by omega), if_neg (by omega), hst, if_neg (by omega), if_neg (by omega), if_pos rfl]
      unfold devTakeP
      rw [hla, if_pos h0]
      have e : payP (payS m acc last pay) (UInt8.ofNat c) = payS m acc last (pay ++ [UInt8.ofNat c]) := by
        cases hp : partsP acc with
        | none =>
          unfold payS payP
          rw [hp]
          rfl
        | some q =>
          have e2 : ∀ y, payS m acc last y = ⟨q.1, q.2.1, q.2.2, false, last, y.take m, decide (m < y.length), 3, m, []⟩ := fun y => by
            unfold payS
            rw [hp]
          rw [payP_step m _ pay _ (by rw [e2]) (by rw [e2]) (by rw [e2]) (by rw [e2]), e2, e2]
      show pre [] (outP (payP (payS m acc last pay) (UInt8.ofNat c)) xs) = _
      rw [e]
      rfl

end Go.Proofs.YtmmkcfjncpcabaaDoor

namespace Go.Proofs.YtmmkcfjncpcabaaDoor
open Go.RowKit

theorem seq_sim {m N : Nat} (H : Sim m N) (dev : Bool) : ∀ (xs : List Nat) (acc : List UInt8), xs.length ≤ N → (∀ z ∈ xs, z < 256) → outP (seqS m dev acc) xs = comb m (seqR m dev acc xs) xs
  | [], acc, _, _ => by
    rw [outP_nil]
    unfold seqS seqR heldQ comb
    cases partsP acc with
    | none => simp [heldP, stD]
    | some q => simp [heldP, stD]
  | c :: xs, acc, hl, h8 => by
    have hl' : xs.length + 1 ≤ N := by simpa using hl
    have hc8 : c < 256 := h8 c (by simp)
    have h8' : ∀ z ∈ xs, z < 256 := fun z hz => h8 z (List.mem_cons_of_mem _ hz)
    have hps : (seqS m dev acc).ps = [] := by unfold seqS; split <;> rfl
    have hms : (seqS m dev acc).most = m := by unfold seqS; split <;> rfl
    have hst : (seqS m dev acc).state = stD dev := by unfold seqS; split <;> rfl
    have hla : (seqS m dev acc).last = 0 := by unfold seqS; split <;> rfl
    have htk : ¬ c = 24 → ¬ c = 26 → ¬ c = 27 → takeP (seqS m dev acc) (UInt8.ofNat c) = if dev = true then devTakeP (seqS m dev acc) (UInt8.ofNat c) else seqTakeP (seqS m dev acc) (UInt8.ofNat c) := fun g1 g2 g3 => by
      unfold takeP
      rw [u8n c hc8, if_neg (by omega), if_neg g3, hst]
      unfold stD
      cases dev <;> simp
    unfold seqR
    by_cases h1 : 128 ≤ c ∨ stopB c = true
    · rw [if_pos h1, comb_stop]
      by_cases h2 : 128 ≤ c
      · rw [pre_nil, out_high H _ hps hms c xs h2 ?_ hl' h8]
        rw [htk (by omega) (by omega) (by omega)]
        unfold devTakeP seqTakeP
        rw [hla, u8n c hc8]
        cases dev
        · rw [if_neg (by simp), if_neg (by omega), if_neg (by omega), if_neg (by omega), if_neg (by omega)]
        · rw [if_pos rfl, if_neg (by simp), if_neg (by omega), if_neg (by omega), if_neg (by omega)]
      · have h3 := of_decide_eq_true (h1.resolve_left h2)
        by_cases h4 : c = 27
        · subst h4
          rw [out_esc H _ hps hms xs hl' h8]
          congr 1
          unfold strP
          rw [hst, hla]
          unfold stD
          cases dev <;> simp
        · rw [pre_nil, out_ends H _ hps hms c xs (by omega) hl' h8]
    · have h1' : ¬ 128 ≤ c := fun h => h1 (.inl h)
      have h2' : ¬ (c = 24 ∨ c = 26 ∨ c = 27) := fun h => h1 (.inr (decide_eq_true h))
      have hT : takeP (seqS m dev acc) (UInt8.ofNat c) = _ := htk (by omega) (by omega) (by omega)
      unfold devTakeP seqTakeP at hT
      rw [hla, u8n c hc8] at hT
      rw [if_neg h1, outP_cons]
      by_cases h3 : c = 127 ∨ c < 32 ∧ dev = true
      · have e : takeP (seqS m dev acc) (UInt8.ofNat c) = (seqS m dev acc, []) := by
          rw [hT]
          cases hd : dev
          · have : c = 127 := by
              rcases h3 with h3 | h3
              · exact h3
              · rw [hd] at h3; cases h3.2
            rw [if_neg (by simp), if_neg (by omega), if_neg (by omega), if_neg (by omega), if_pos this]
          · rw [if_pos rfl, if_neg (by simp), if_pos (by omega)]
        rw [e, if_pos h3, comb_up1, ← seq_sim H dev xs acc (by omega) h8', pre_nil]
      · rw [if_neg h3]
        by_cases h4 : c < 32
        · have hd : dev = false := by
            cases dev with
            | false => rfl
            | true => exact absurd (.inr ⟨h4, rfl⟩) h3
          have e : takeP (seqS m dev acc) (UInt8.ofNat c) = (seqS m dev acc, [execP c]) := by
            rw [hT, if_neg (by rw [hd]; simp), if_pos h4]
          rw [e, if_pos h4, comb_cons, ← seq_sim H dev xs acc (by omega) h8']
        · rw [if_neg h4]
          by_cases h5 : c < 64
          · have e : takeP (seqS m dev acc) (UInt8.ofNat c) = (parP (seqS m dev acc) (UInt8.ofNat c), []) := by
              rw [hT]
              cases hd : dev
              · rw [if_neg (by simp), if_neg h4, if_pos h5]
              · rw [if_pos rfl, if_neg (by simp), if_neg (by omega), if_pos h5]
            rw [e, if_pos h5, comb_up1, ← seq_sim H dev xs (acc ++ [UInt8.ofNat c]) (by omega) h8', ← parP_step m dev acc (UInt8.ofNat c) (by rw [u8n c hc8]; omega) (by rw [u8n c hc8]; omega), pre_nil]
          · rw [if_neg h5]
            have h6 : c < 127 := by omega
            cases hd : dev
            · have e : takeP (seqS m false acc) (UInt8.ofNat c) = endSeqP (seqS m false acc) c := by
                rw [← hd, hT, if_neg (by rw [hd]; simp), if_neg h4, if_neg h5, if_pos h6]
              rw [e, if_neg (by simp), comb_end, List.drop_one, List.tail_cons, ← H xs (by omega) h8']
              unfold endSeqP csiE' seqS
              cases partsP acc with
              | none => rfl
              | some q => rfl
            · have e : takeP (seqS m true acc) (UInt8.ofNat c) = ({ seqS m true acc with last := c }, []) := by
                rw [← hd, hT, if_pos hd, if_neg (by simp), if_neg (by omega), if_neg h5, if_pos h6]
              rw [e, if_pos rfl, comb_up1, pre_nil, ← pay_sim H acc c (by omega) xs [] (by omega) h8']
              congr 1
              unfold seqS payS
              cases partsP acc with
              | none => rfl
              | some q => simp [stD]
theorem last_sim {m N : Nat} (H : Sim m N) (s : PM) (hp : s.ps = []) (hm : s.most = m) (hw : s.wrong = false) (hi : s.inter = []) (x : Int) (xs : List Nat) (hl : xs.length ≤ N) (h8 : ∀ z ∈ xs, z < 256) : pre (endEscP s x).2 (outP (endEscP s x).1 xs) = comb m (lastR m x xs) xs := by
  unfold endEscP lastR beginsZ
  rw [hw, hi, if_neg (by simp)]
  have e : ∀ k, s.at k = ⟨0, [], [], false, 0, [], false, k, m, []⟩ := fun k => by rw [at_at s hp, hm]; rfl
  rw [e, e]
  by_cases h1 : x = 91
  · rw [if_pos h1, if_pos h1, if_pos (by simp), ← seq_sim H false xs [] hl h8]
    rfl
  rw [if_neg h1, if_neg h1]
  by_cases h2 : x = 93
  · have h3 : ¬ x = 80 := by omega
    rw [if_pos h2, if_neg h3, if_pos h2, if_pos (by simp), ← cmd_sim H xs [] hl h8]
    simp [cmdS, pre_nil]
  rw [if_neg h2]
  by_cases h3 : x = 80
  · rw [if_pos h3, if_pos h3, if_pos (by simp), ← seq_sim H true xs [] hl h8]
    rfl
  rw [if_neg h3, if_neg h3, if_neg h2]
  by_cases h4 : x = 88 ∨ x = 94 ∨ x = 95
  · rw [if_pos h4, if_pos h4, if_pos (by simp), ← str_sim H xs hl h8]
    rfl
  rw [if_neg h4, if_neg h4, if_neg (by simp), comb_end, List.drop_zero, ← H xs hl h8]
  rfl
def escS (m : Nat) (inter : List UInt8) : PM := if inter.length ≤ 2 then ⟨0, [], inter, false, 0, [], false, 1, m, []⟩ else ⟨0, [], [], true, 0, [], false, 1, m, []⟩
theorem esc_sim {m N : Nat} (H : Sim m N) : ∀ (xs : List Nat) (inter : List UInt8), xs.length ≤ N → (∀ z ∈ xs, z < 256) → outP (escS m inter) xs = comb m (escR m inter xs) xs
  | [], inter, _, _ => by
    rw [outP_nil]
    unfold escS escR comb
    by_cases h : inter.length ≤ 2
    · simp [h, heldP]
    · simp [h, heldP]
  | c :: xs, inter, hl, h8 => by
    have hl' : xs.length + 1 ≤ N := by simpa using hl
    have hc8 : c < 256 := h8 c (by simp)
    have h8' : ∀ z ∈ xs, z < 256 := fun z hz => h8 z (List.mem_cons_of_mem _ hz)
    have hps : (escS m inter).ps = [] := by unfold escS; split <;> rfl
    have hms : (escS m inter).most = m := by unfold escS; split <;> rfl
    have hst : (escS m inter).state = 1 := by unfold escS; split <;> rfl
    have htk : ¬ c = 24 → ¬ c = 26 → ¬ c = 27 → takeP (escS m inter) (UInt8.ofNat c) = escTakeP (escS m inter) (UInt8.ofNat c) := fun g1 g2 g3 => by
      unfold takeP
      rw [u8n c hc8, if_neg (by omega), if_neg g3, hst, if_pos rfl]
    unfold escR
    by_cases h1 : 128 ≤ c ∨ stopB c = true
    · rw [if_pos h1, comb_stop]
      by_cases h2 : 128 ≤ c
      · rw [pre_nil, out_high H _ hps hms c xs h2 ?_ hl' h8]
        rw [htk (by omega) (by omega) (by omega)]
        unfold escTakeP
        rw [u8n c hc8, if_neg (by omega), if_neg (by omega), if_neg (by omega), if_neg (by omega)]
      · have h3 := of_decide_eq_true (h1.resolve_left h2)
        by_cases h4 : c = 27
        · subst h4
          rw [out_esc H _ hps hms xs hl' h8]
          congr 1
          unfold strP
          rw [hst]
          simp
        · rw [pre_nil, out_ends H _ hps hms c xs (by omega) hl' h8]
    · have h1' : ¬ 128 ≤ c := fun h => h1 (.inl h)
      have h2' : ¬ (c = 24 ∨ c = 26 ∨ c = 27) := fun h => h1 (.inr (decide_eq_true h))
      have hT : takeP (escS m inter) (UInt8.ofNat c) = _ := htk (by omega) (by omega) (by omega)
      unfold escTakeP at hT
      rw [u8n c hc8] at hT
      rw [if_neg h1, outP_cons]
      by_cases h3 : c < 32
      · have e : takeP (escS m inter) (UInt8.ofNat c) = (escS m inter, [execP c]) := by rw [hT, if_pos h3]
        rw [e, if_pos h3, comb_cons, ← esc_sim H xs inter (by omega) h8']
      rw [if_neg h3]
      by_cases h4 : c = 127
      · have e : takeP (escS m inter) (UInt8.ofNat c) = (escS m inter, []) := by rw [hT, if_neg h3, if_neg (by omega), if_neg (by omega), if_pos h4]
        rw [e, if_pos h4, comb_up1, ← esc_sim H xs inter (by omega) h8', pre_nil]
      rw [if_neg h4]
      by_cases h5 : c < 48
      · have e : takeP (escS m inter) (UInt8.ofNat c) = (betweenP (escS m inter) (UInt8.ofNat c), []) := by rw [hT, if_neg h3, if_pos h5]
        rw [e, if_pos h5, comb_up1, ← esc_sim H xs (inter ++ [UInt8.ofNat c]) (by omega) h8', pre_nil]
        congr 1
        unfold escS betweenP PM.fresh
        by_cases h6 : inter.length ≤ 2
        · by_cases h7 : inter.length < 2
          · simp [h7, h6]; omega
          · simp [h7, h6]; omega
        · simp [h6]; omega
      have e : takeP (escS m inter) (UInt8.ofNat c) = endEscP (escS m inter) c := by rw [hT, if_neg h3, if_neg h5, if_pos (by omega)]
      rw [e, if_neg h5]
      by_cases h6 : inter = []
      · subst h6
        rw [if_pos rfl, comb_up1, ← last_sim H (escS m []) rfl rfl rfl rfl c xs (by omega) h8']
      · rw [if_neg h6, comb_end, List.drop_one, List.tail_cons, ← H xs (by omega) h8']
        unfold endEscP escS
        by_cases h7 : inter.length ≤ 2
        · simp [h7, h6]
          rfl
        · simp [h7]
          rfl

end Go.Proofs.YtmmkcfjncpcabaaDoor

namespace Go.Proofs.YtmmkcfjncpcabaaDoor
open Go.RowKit

theorem full_low (x : Nat) (h : x < 128) : fullB [x] = true ∧ firstF [x] = (x, 1) := by
  have hs : scalarB (x : Int) = true := decide_eq_true (by omega)
  have hp : putL (x : Int) = [x] := by
    unfold putL
    rw [if_pos hs, if_pos (by omega)]
    simp [putN]
  have h1 := full_put _ hs []
  have h2 := first_put _ hs []
  rw [hp, List.append_nil] at h1 h2
  exact ⟨h1, by simpa using h2⟩
theorem wait_high {ps : List Nat} (hf : fullB ps = false) (hp : ps ≠ []) : 128 ≤ ps[0]?.getD 0 := by
  cases ps with
  | nil => exact absurd rfl hp
  | cons a t =>
    show 128 ≤ a
    rcases Nat.lt_or_ge a 128 with h | h
    · have h1 := full_take (a :: t) hf 1
      rw [List.take_succ_cons, List.take_zero, (full_low a h).1] at h1
      cases h1
    · exact h
theorem last_high {ps : List Nat} {y : Nat} (hp : ps ≠ []) (h : isB (ps ++ [y]) = true) : 128 ≤ y := by
  obtain ⟨hs, he⟩ := is_some h
  obtain ⟨h0, _⟩ := scalarB_bd hs
  generalize numZ_u (ps ++ [y]) = r at *
  obtain ⟨n, rfl⟩ := Int.eq_ofNat_of_zero_le h0
  have hl : (putL (n : Int)).getLast? = some y := by rw [he]; simp
  have hn : (putL (n : Int)).length = ps.length + 1 := by rw [he]; simp
  have hpos := List.length_pos_iff.2 hp
  unfold putL at hl hn
  rw [if_pos hs] at hl hn
  by_cases a : (n : Int) < 128
  · rw [if_pos a] at hn
    have h1 : (putN 1 (n : Int)).length = 1 := rfl
    omega
  rw [if_neg a] at hl hn
  by_cases b : (n : Int) < 2048
  · rw [if_pos b] at hl
    simp [putN] at hl
    omega
  rw [if_neg b] at hl hn
  by_cases c : (n : Int) < 65536
  · rw [if_pos c] at hl
    simp [putN] at hl
    omega
  rw [if_neg c] at hl
  simp [putN] at hl
  omega
theorem accLo_ge (x : Nat) (h : x ≤ 4) : 128 ≤ Lib.accLo x := by
  unfold Lib.accLo
  repeat' split
  all_goals omega
set_option maxRecDepth 100000 in
theorem firstT_acc : ∀ a, a < 256 → Lib.firstT a % 8 ≤ 1 ∨ Lib.firstT a / 16 ≤ 4 := by decide
/-- A byte of seven bits breaks what waits. -/
theorem first_break (ps : List Nat) (y : Nat) (h8 : ∀ z ∈ ps ++ [y], z < 256) (hf : fullB ps = false) (hp : ps ≠ []) (hy : y < 128) : fullB (ps ++ [y]) = true ∧ firstF (ps ++ [y]) = (65533, ps.length) := by
  have hl3 := full_four ps (fun z hz => h8 z (List.mem_append_left _ hz)) hf
  have hpos := List.length_pos_iff.2 hp
  have hfull : fullB (ps ++ [y]) = true := by
    unfold fullB fullN fullX
    refine decide_eq_true ⟨by simp, ?_⟩
    match ps, hl3, hp with
    | [a], _, _ =>
      rcases firstT_acc a (h8 a (by simp)) with h | h
      · left
        simp
        omega
      · right; left
        have := accLo_ge (Lib.firstT a / 16) h
        simp
        omega
    | [a, b], _, _ =>
      right; right
      simp
      omega
    | [a, b, c], _, _ =>
      left
      have := firstT_le a
      simpa using this
  refine ⟨hfull, ?_⟩
  have tk : ∀ j, j ≤ ps.length → (ps ++ [y]).take j = ps.take j := fun j hj => by rw [List.take_append_of_le_length hj]
  have hl : (ps ++ [y]).length = ps.length + 1 := by simp
  rw [first_not _ h8 (by simp) (fun n h1 h2 h3 => by
    cases hq : isB ((ps ++ [y]).take n) with
    | false => rfl
    | true =>
      exfalso
      rcases Nat.lt_or_ge ps.length n with h5 | h5
      · rw [List.take_of_length_le (by omega)] at hq
        have := last_high hp hq
        omega
      · rw [tk n h5] at hq
        obtain ⟨h6, h7⟩ := is_some hq
        have h8 := full_put _ h6 []
        rw [List.append_nil, h7, full_take ps hf n] at h8
        cases h8)]
  rw [← begF_is (ps ++ [y]) ps.length (by omega) (fun j h1 h2 => ⟨by omega, by rw [tk _ (by omega)]; exact full_take ps hf _⟩) (.inr (by rw [← hl, List.take_length]; exact hfull))]
theorem first_ge (zs : List Nat) (h8 : ∀ z ∈ zs, z < 256) (h0 : zs ≠ []) (h : 32 ≤ zs[0]?.getD 0) : 32 ≤ (firstF zs).1 := by
  rcases Classical.em (∃ n, 1 ≤ n ∧ n ≤ 4 ∧ n ≤ zs.length ∧ isB (zs.take n) = true) with ⟨n, h1, h2, h3, h4⟩ | hno
  · rw [first_is _ n h3 h4]
    show 32 ≤ (numZ_u (zs.take n)).toNat
    obtain ⟨hs, he⟩ := is_some h4
    obtain ⟨hr, _⟩ := scalarB_bd hs
    generalize numZ_u (zs.take n) = r at *
    obtain ⟨k, rfl⟩ := Int.eq_ofNat_of_zero_le hr
    rcases Nat.lt_or_ge k 128 with hk | hk
    · unfold putL at he
      rw [if_pos hs, if_pos (by omega)] at he
      have h5 : (zs.take n)[0]? = some k := by rw [← he]; simp [putN]
      rw [List.getElem?_take, if_pos (by omega)] at h5
      rw [h5] at h
      simpa using h
    · simp
      omega
  · rw [first_not zs h8 h0 (fun n h1 h2 h3 => by
      cases hq : isB (zs.take n) with
      | false => rfl
      | true => exact absurd ⟨n, h1, h2, h3, hq⟩ hno)]
    show 32 ≤ 65533
    omega
theorem rest_full {m M : Nat} (H : Sim m M) (zs : List Nat) (h0 : zs ≠ []) (h8 : ∀ z ∈ zs, z < 256) (hc : 32 ≤ zs[0]?.getD 0) (hf : fullB zs = true) (hM : (zs.drop (firstF zs).2).length ≤ M) :
    OfR m zs = pre (scal1 (RP m []) (firstF zs).1).2 (outP (scal1 (RP m []) (firstF zs).1).1 (zs.drop (firstF zs).2)) := by
  have hg := first_ge zs h8 h0 hc
  have h8' : ∀ z ∈ zs.drop (firstF zs).2, z < 256 := fun z hz => h8 z (List.mem_of_mem_drop hz)
  rw [OfR_cons m zs h0]
  have hR : restR m zs = if (firstF zs).1 = 127 then ⟨[], 0, 0, (firstF zs).2⟩ else if 128 ≤ (firstF zs).1 ∧ (firstF zs).1 ≤ 159 then (lastR m (((firstF zs).1 : Int) - 64) (zs.drop (firstF zs).2)).up (firstF zs).2 else ⟨[printP (firstF zs).1], 0, 0, (firstF zs).2⟩ := by
    unfold restR
    simp only
    rw [if_neg (show ¬ zs[0]?.getD 0 = 27 by omega), if_neg (show ¬ zs[0]?.getD 0 < 32 by omega), if_neg (show ¬ ((firstF zs).2 = zs.length ∧ fullB zs = false) by rw [hf]; simp)]
  have hS : scal1 (RP m []) (firstF zs).1 = if (firstF zs).1 = 127 then (RP m [], []) else if 128 ≤ (firstF zs).1 ∧ (firstF zs).1 ≤ 159 then endEscP (RP m []) (((firstF zs).1 : Int) - 64) else (RP m [], [printP (firstF zs).1]) := by
    unfold scal1
    rw [if_neg (show ¬ (firstF zs).1 < 32 by omega)]
  rw [hR, hS]
  by_cases h1 : (firstF zs).1 = 127
  · rw [if_pos h1, if_pos h1, comb_end, ← H _ hM h8']
  rw [if_neg h1, if_neg h1]
  by_cases h2 : 128 ≤ (firstF zs).1 ∧ (firstF zs).1 ≤ 159
  · rw [if_pos h2, if_pos h2, comb_up, ← last_sim H (RP m []) rfl rfl rfl rfl _ _ hM h8']
  · rw [if_neg h2, if_neg h2, comb_end, ← H _ hM h8']
/-- Whatever waits, and whatever comes. -/
def SimP (m N : Nat) : Prop := ∀ xs ps : List Nat, xs.length ≤ N → (∀ z ∈ xs, z < 256) → (∀ z ∈ ps, z < 256) → fullB ps = false → outP (RP m ps) xs = OfR m (ps ++ xs)
theorem out_wait (m : Nat) (ps : List Nat) (h8 : ∀ z ∈ ps, z < 256) (hf : fullB ps = false) : outP (RP m ps) [] = OfR m ps := by
  rw [outP_nil]
  by_cases hp : ps = []
  · subst hp; rfl
  · have hc := wait_high hf hp
    have hw := first_wait ps h8 hp hf
    have hR : restR m ps = ⟨[], 0, ps.length, ps.length⟩ := by
      unfold restR
      simp only
      rw [if_neg (show ¬ ps[0]?.getD 0 = 27 by omega), if_neg (show ¬ ps[0]?.getD 0 < 32 by omega), hw, if_pos ⟨rfl, hf⟩]
    rw [OfR_cons m ps hp, hR]
    unfold comb
    rw [if_pos (Nat.le_refl _)]
    simp [RP, heldP]
theorem take_low (m : Nat) (ps : List Nat) (c : Nat) (hc : c = 24 ∨ c = 26 ∨ c = 27) (hp : ps ≠ []) : takeP (RP m ps) (UInt8.ofNat c) = ((takeP (RP m []) (UInt8.ofNat c)).1, printP 65533 :: (takeP (RP m []) (UInt8.ofNat c)).2) := by
  have e : endP (RP m ps) = (RP m [], [printP 65533]) := by
    unfold endP readE
    rw [if_neg (show ¬ (RP m ps).ps = [] from hp)]
    rfl
  have e2 : endP (RP m []) = (RP m [], []) := endP_nil _ rfl
  unfold takeP
  rw [u8n c (by omega), e, e2]
  by_cases h1 : c = 24 ∨ c = 26
  · rw [if_pos h1, if_pos h1]; rfl
  · rw [if_neg h1, if_neg h1, if_pos (by omega), if_pos (by omega)]; rfl
theorem take_rest (m : Nat) (ps : List Nat) (c : Nat) (hc : c < 256) (h1 : ¬ (c = 24 ∨ c = 26)) (h2 : ¬ c = 27) : takeP (RP m ps) (UInt8.ofNat c) = restP (RP m ps) c := by
  unfold takeP
  rw [u8n c hc, if_neg h1, if_neg h2]
  rfl
theorem sim_all (m : Nat) : ∀ N, SimP m N
  | 0, xs, ps, hl, _, hp8, hf => by
    obtain rfl : xs = [] := List.length_eq_zero_iff.1 (by omega)
    rw [List.append_nil]
    exact out_wait m ps hp8 hf
  | N + 1, xs, ps, hl, h8, hp8, hf => by
    have IH := sim_all m N
    have HN : Sim m N := fun xs h1 h2 => IH xs [] h1 h2 (fun z hz => by cases hz) rfl
    -- nothing waits
    have H1 : Sim m (N + 1) := fun xs hl h8 => by
      cases xs with
      | nil => rfl
      | cons c xs =>
        have hl' : xs.length ≤ N := by simpa using hl
        have hc8 : c < 256 := h8 c (by simp)
        have h8' : ∀ z ∈ xs, z < 256 := fun z hz => h8 z (List.mem_cons_of_mem _ hz)
        by_cases h1 : c = 24 ∨ c = 26
        · rw [outP_cons, take_ends (RP m []) c rfl h1, OfR_cons m _ (by simp)]
          unfold restR
          simp only [List.getElem?_cons_zero, Option.getD_some]
          rw [if_neg (by omega), if_pos (by omega), comb_end, List.drop_one, List.tail_cons, ← HN xs hl' h8']
          rfl
        by_cases h2 : c = 27
        · subst h2
          rw [outP_cons, take_esc (RP m []) rfl, OfR_cons m _ (by simp)]
          unfold restR
          simp only [List.getElem?_cons_zero, Option.getD_some, List.tail_cons, if_true]
          rw [comb_up1, ← esc_sim HN xs [] hl' h8']
          rfl
        rw [outP_cons, take_rest m [] c hc8 h1 h2]
        by_cases h3 : c < 32
        · obtain ⟨e1, e2⟩ := full_low c (by omega)
          rw [rest_one m [] c e1 (by rw [List.nil_append, e2]; rfl), List.nil_append, e2, OfR_cons m _ (by simp)]
          unfold restR scal1
          simp only [List.getElem?_cons_zero, Option.getD_some]
          rw [if_neg h2, if_pos h3, if_pos h3, comb_end, List.drop_one, List.tail_cons, ← HN xs hl' h8']
        cases hfc : fullB ([] ++ [c]) with
        | false =>
          rw [rest_wait m [] c hfc, pre_nil]
          exact IH xs [c] hl' h8' (fun z hz => by simp at hz; omega) hfc
        | true =>
          have h18 : ∀ z ∈ [] ++ [c], z < 256 := fun z hz => by simp at hz; omega
          rcases first_snoc [] c h18 rfl hfc with h4 | h4
          · rw [rest_one m [] c hfc h4]
            obtain ⟨e1, e2⟩ := first_more ([] ++ [c]) xs h8 hfc
            have e3 : ([] ++ [c]) ++ xs = c :: xs := rfl
            rw [e3] at e1 e2
            have e4 : (c :: xs).drop (firstF (c :: xs)).2 = xs := by rw [e1, h4]; rfl
            rw [rest_full HN (c :: xs) (by simp) h8 (by simp; omega) e2 (by rw [e4]; exact hl'), e4, e1]
          · exact absurd rfl h4.1
    cases xs with
    | nil =>
      rw [List.append_nil]
      exact out_wait m ps hp8 hf
    | cons c xs =>
      by_cases hp : ps = []
      · subst hp
        exact H1 (c :: xs) hl h8
      have hl' : xs.length ≤ N := by simpa using hl
      have hc8 : c < 256 := h8 c (by simp)
      have h8' : ∀ z ∈ xs, z < 256 := fun z hz => h8 z (List.mem_cons_of_mem _ hz)
      have h9 : ∀ z ∈ ps ++ [c], z < 256 := fun z hz => by
        rcases List.mem_append.1 hz with hz | hz
        · exact hp8 z hz
        · simp at hz; omega
      have h10 : ∀ z ∈ (ps ++ [c]) ++ xs, z < 256 := fun z hz => by
        rcases List.mem_append.1 hz with hz | hz
        · exact h9 z hz
        · exact h8' z hz
      have ea : (ps ++ [c]) ++ xs = ps ++ c :: xs := by simp
      have hc0 : 32 ≤ (ps ++ c :: xs)[0]?.getD 0 := by
        have := wait_high hf hp
        cases ps with
        | nil => exact absurd rfl hp
        | cons a t =>
          have h3 : 128 ≤ a := this
          show 32 ≤ a
          omega
      have broken : firstF (ps ++ [c]) = (65533, ps.length) → fullB (ps ++ [c]) = true → OfR m (ps ++ c :: xs) = pre [printP 65533] (outP (RP m []) (c :: xs)) := fun h1 h2 => by
        obtain ⟨e1, e2⟩ := first_more (ps ++ [c]) xs h10 h2
        rw [ea, h1] at e1
        rw [ea] at e2
        have e4 : (ps ++ c :: xs).drop (firstF (ps ++ c :: xs)).2 = c :: xs := by rw [e1]; exact List.drop_left
        rw [rest_full H1 (ps ++ c :: xs) (by simp) (by rw [← ea]; exact h10) hc0 e2 (by rw [e4]; simpa using hl), e4, e1]
        rfl
      by_cases h1 : c = 24 ∨ c = 26 ∨ c = 27
      · obtain ⟨e1, e2⟩ := first_break ps c h9 hf hp (by omega)
        rw [broken e2 e1, outP_cons, take_low m ps c h1 hp]
        rfl
      rw [outP_cons, take_rest m ps c hc8 (by omega) (by omega)]
      cases hfc : fullB (ps ++ [c]) with
      | false =>
        rw [rest_wait m ps c hfc, pre_nil, ← ea]
        exact IH xs (ps ++ [c]) hl' h8' h9 hfc
      | true =>
        rcases first_snoc ps c h9 hf hfc with h4 | h4
        · rw [rest_one m ps c hfc h4]
          obtain ⟨e1, e2⟩ := first_more (ps ++ [c]) xs h10 hfc
          rw [ea] at e1 e2
          have e4 : (ps ++ c :: xs).drop (firstF (ps ++ c :: xs)).2 = xs := by
            rw [e1, h4, ← ea]
            have : (ps ++ [c]).length = ps.length + 1 := by simp
            rw [← this]
            exact List.drop_left
          rw [rest_full HN (ps ++ c :: xs) (by simp) (by rw [← ea]; exact h10) hc0 e2 (by rw [e4]; exact hl'), e4, e1]
        · rw [rest_two m ps c hfc h4.2, broken h4.2 hfc, outP_cons, take_rest m [] c hc8 (by omega) (by omega)]
          rfl
/-- A parser makes of any bytes what the document makes of them. -/
theorem parse_of (m : Nat) (xs : List Nat) (h8 : ∀ z ∈ xs, z < 256) : outP (newP m) xs = OfR m xs := sim_all m xs.length xs [] (Nat.le_refl _) h8 (fun z hz => by cases hz) rfl

end Go.Proofs.YtmmkcfjncpcabaaDoor

namespace Go.Proofs.YtmmkcfjncpcabaaDoor
open Go.RowKit

set_option maxRecDepth 100000 in
set_option maxHeartbeats 8000000 in
theorem refParse_tag (s : ByteArray) (w : World) (hs : s.size ≤ 1000) :
    Calls Tryd.prog 54 #[.string s] w (ParseTag s.data.toList w) := by
  have HSZ : Hid (s.data.toList.length = s.size) := Lib.hid (by simp)
  obtain ⟨i0, hi0, hz0, hz1, hz2⟩ := info_parts Tryd.infoInt
  obtain ⟨i1, hi1, hy0, hy1, hy2⟩ := info_parts Tryd.infoInts
  go_enter Tryd.func54, Tryd.ntmps54
  go_wp2
  go_loop [4] (fun i => ∃ k : Nat, k ≤ s.size ∧ i = .int .i64 k ∧ Hid (headL (s.data.toList.take k) = true)) (fun i => s.size - (intOf i).toNat)
  case atStart => exact ⟨0, Nat.zero_le _, rfl, Lib.hid rfl⟩
  case round =>
    obtain ⟨k, hk, rfl, HK⟩ := hrel
    by_cases hlt : k < s.size
    · have hki : (k : Int) < s.size := by omega
      have hkl : k < s.data.toList.length := by rw [HSZ.out]; exact hlt
      obtain ⟨x, hx⟩ : ∃ x, s[k] = x := ⟨_, rfl⟩
      have HX : Hid (s.data.toList[k]'hkl = x) := Lib.hid (by rw [← hx]; rfl)
      by_cases hb : headB x = true
      · have HN := Lib.hid (headL_take s.data.toList k hkl HK.out (by rw [HX.out]; exact hb))
        have h1 : decide (48 ≤ (x.toNat : Int)) = true := by simp [headB] at hb; simp; omega
        have h2 : decide ((x.toNat : Int) ≤ 59) = true := by simp [headB] at hb; simp; omega
        clear hb HX HK
        go_wp2
        go_round
        case rel => exact ⟨k + 1, hlt, by go_num, HN⟩
        case measure => simp [intOf]; omega
      · have hb' : headB x = false := by simpa using hb
        have HN := Lib.hid (headL_no s.data.toList k hkl (by rw [HX.out]; exact hb'))
        have h12 : decide (48 ≤ (x.toNat : Int)) = false ∨ decide (48 ≤ (x.toNat : Int)) = true ∧ decide ((x.toNat : Int) ≤ 59) = false := by
          by_cases h : 48 ≤ (x.toNat : Int)
          · exact .inr ⟨decide_eq_true h, decide_eq_false (fun h2 => hb (by simp [headB]; omega))⟩
          · exact .inl (decide_eq_false h)
        clear hb hb' HX HK
        rcases h12 with h1 | ⟨h1, h2⟩
        all_goals
          go_wp2
          go_ret2
          exact .inl ⟨HN.out, rfl, Below.refl _ _⟩
    · obtain rfl : k = s.size := by omega
      have HL : Hid (headL s.data.toList = true) := Lib.hid (by rw [← HK.out, List.take_of_length_le (by rw [HSZ.out]; exact Nat.le_refl _)])
      clear HK hk hlt
      go_wp2
      go_loopw [5, 6] (fun v i wr => ∃ (k C : Nat) (vo vc : Value) (L : List (List Int)) (vals : List Value) (J : List Int) (z : Int), vo = v ∧ k ≤ s.size ∧ i = .int .i64 k ∧ L.length ≤ k ∧ J.length ≤ k ∧ -1 ≤ z ∧ z ≤ 65535 ∧ Hid (PG wr w.heap.size C vo L vals (J ++ [z]) vc) ∧ Hid (GZ (s.data.toList.take k) = L ++ [J ++ [z]]) ∧ Hid (Below w.heap.size w wr)) (fun _ i _ => s.size - (intOf i).toNat)
      case atStart => exact ⟨0, _, _, _, [], [], [], -1, rfl, Nat.zero_le _, rfl, Nat.le_refl _, Nat.le_refl _, by omega, by omega, Lib.hid (pg_first w (-1)), Lib.hid rfl, Lib.hid (belA (belA (Below.refl _ _) _) _)⟩
      case round =>
        obtain ⟨k, C, vo, vc, L, vals, J, z, rfl, hk, rfl, hLk, hJk, hz1', hz2', HG, HZZ, HB⟩ := hrel
        by_cases hlt : k < s.size
        · have hki : (k : Int) < s.size := by omega
          have hkl : k < s.data.toList.length := by rw [HSZ.out]; exact hlt
          obtain ⟨x, hx⟩ : ∃ x, s[k] = x := ⟨_, rfl⟩
          have HX : Hid (s.data.toList[k]'hkl = x) := Lib.hid (by rw [← hx]; rfl)
          obtain ⟨g, c, rfl, hgB, hgz, hco, hcf⟩ := HG.out.slot
          obtain ⟨Ac, cc, hvc, hAc⟩ := HG.out.form
          obtain ⟨gc, rfl⟩ := hAc (by simp)
          have hlen : (J ++ [z]).length = J.length + 1 := by simp
          rw [hlen] at hvc
          subst hvc
          have HTK : Hid (s.data.toList.take (k + 1) = s.data.toList.take k ++ [x]) := Lib.hid (by rw [List.take_succ_eq_append_getElem hkl, HX.out])
          clear hAc hlen
          by_cases h59 : x.toNat = 59
          · have hxe : x = 59 := UInt8.toNat_inj.1 h59
            have HN : Hid (GZ (s.data.toList.take (k + 1)) = (L ++ [J ++ [z]]) ++ [[] ++ [-1]]) := Lib.hid (by rw [HTK.out, hxe, GZ_semi, HZZ.out]; rfl)
            have e1 : ((x.toNat : Int) == 59) = true := by simp; omega
            have HNX : Hid (∀ w5 v2, ((wr.alloc (.cells #[.int .i64 (-1)] 3)).alloc (.cells #[.slice (some ⟨wr.heap.size, 0, none⟩) 1 1] 48)).grownBy w5 (some g) → w5.ownsRow w.heap.size 48 1 v2 (L.length + 1 + 1) (vals ++ [.slice (some ⟨gc, 0, none⟩) (J.length + 1) cc] ++ [.slice (some ⟨wr.heap.size, 0, none⟩) 1 1]) → PG w5 w.heap.size wr.heap.size v2 (L ++ [J ++ [z]]) (vals ++ [.slice (some ⟨gc, 0, none⟩) (J.length + 1) cc]) ([] ++ [-1]) (.slice (some ⟨wr.heap.size, 0, none⟩) 1 1) ∧ Below w.heap.size w w5) := Lib.hid fun w5 v2 hg h2 => by
              have hB2 : Below wr.heap.size wr ((wr.alloc (.cells #[.int .i64 (-1)] 3)).alloc (.cells #[.slice (some ⟨wr.heap.size, 0, none⟩) 1 1] 48)) := belA (belA (Below.refl _ _) _) _
              have hn := (World.ownsRow_lit (e := 3) (size := 1) wr #[.int .i64 (-1)] 1 (Nat.le_refl _) (by unfold maxLen; omega) rfl).alloc (.cells #[.slice (some ⟨wr.heap.size, 0, none⟩) 1 1] 48)
              exact ⟨HG.out.next hB2 (vn := .slice (some ⟨wr.heap.size, 0, none⟩) 1 1) (new := [] ++ [-1]) hn hg h2, (belA (belA HB.out _) _).grown hg (by have := HB.out.size; simp; omega) (fun j e => by cases e; exact hgB)⟩
            have HOO := Lib.hid ((HG.out.outer.alloc (.cells #[.int .i64 (-1)] 3)).alloc (.cells #[.slice (some ⟨wr.heap.size, 0, none⟩) 1 1] 48))
            have HNW := Lib.hid (news2 wr (.cells #[.int .i64 (-1)] 3) (.slice (some ⟨wr.heap.size, 0, none⟩) 1 1) 48)
            have hsz9 := HB.out.size
            clear h59 hxe HG HZZ HTK HX hcf
            go_wp2_with (at_builtin; go_must (refine wpList_append_own _ rfl _ _ 39 rfl w.heap.size 48 i1 (.slice none 0 0) 1 24 Tryd.underlying39 hi1 hy0 hy1 hy2 rfl (by decide) (.slice (some ⟨g, 0, none⟩) (L.length + 1) c) (L.length + 1) (vals ++ [.slice (some ⟨gc, 0, none⟩) (J.length + 1) cc]) rfl HOO.out ⟨wr.heap.size + 1, 0, none⟩ 1 1 [.slice (some ⟨wr.heap.size, 0, none⟩) 1 1] rfl rfl HNW.out (by simp [Value.oneCell']) (by unfold maxLen; omega) (by omega) (by simp; omega) ?_; intro v2 w5 hown2 hgrow2 _; have HF := Lib.hid (HNX.out w5 v2 hgrow2 hown2); clear hown2 hgrow2))
            go_roundw
            case rel => exact ⟨k + 1, _, v2, _, _, _, [], -1, rfl, hlt, by go_num, by simp; omega, Nat.zero_le _, by omega, by omega, Lib.hid HF.out.1, HN, Lib.hid HF.out.2⟩
            case measure => simp [intOf]; omega
          · by_cases h58 : x.toNat = 58
            · have hxe : x = 58 := UInt8.toNat_inj.1 h58
              have HN : Hid (GZ (s.data.toList.take (k + 1)) = L ++ [(J ++ [z]) ++ [-1]]) := Lib.hid (by rw [HTK.out, hxe, GZ_colon, HZZ.out, modLast_snoc])
              have e1 : ((x.toNat : Int) == 59) = false := by simp; omega
              have e2 : ((x.toNat : Int) == 58) = true := by simp; omega
              have HPA := Lib.hid (HG.out.past ((Below.refl wr.heap.size wr).alloc (Nat.le_refl _) (.cells #[.int .i64 (-1)] 3)))
              have HAFT : Hid (∀ w5 v2, (wr.alloc (.cells #[.int .i64 (-1)] 3)).grownBy w5 (some gc) → w5.ownsRow C 3 1 v2 (J.length + 1 + 1) ((J ++ [z]).map (Value.int .i64) ++ [.int .i64 (-1)]) → w5.cell? ⟨g, L.length, none⟩ = some (.slice (some ⟨gc, 0, none⟩) (J.length + 1) cc) ∧ w5.frozen? ⟨g, L.length, none⟩ = false ∧ PG (w5.setCell ⟨g, L.length, none⟩ v2) w.heap.size C (.slice (some ⟨g, 0, none⟩) (L.length + 1) c) L vals ((J ++ [z]) ++ [-1]) v2 ∧ Below w.heap.size w (w5.setCell ⟨g, L.length, none⟩ v2)) := Lib.hid fun w5 v2 hg h2 => by
                have h := HPA.out.grow (cur2 := (J ++ [z]) ++ [-1]) hg (by simpa using h2)
                exact ⟨h.1, h.2.1, h.2.2.1, h.2.2.2 (belA HB.out _)⟩
              have HCU : Hid ((wr.alloc (.cells #[.int .i64 (-1)] 3)).ownsRow C 3 1 (.slice (some ⟨gc, 0, none⟩) (J.length + 1) cc) (J.length + 1) ((J ++ [z]).map (Value.int .i64))) := Lib.hid (by have := HPA.out.cur; rw [List.length_append] at this; exact this)
              have hCz : C ≤ wr.heap.size := by have := HG.out.cur.lt gc rfl; omega
              clear h58 h59 hxe HG HZZ HTK HX HPA
              generalize hJL : (J ++ [z]).map (Value.int .i64) = JL at *
              clear hJL
              go_wp2_with (at_builtin; go_must (refine wpList_append_own _ rfl _ _ 48 rfl C 3 i0 (.int .i64 0) 1 8 Tryd.underlying48 hi0 hz0 hz1 hz2 rfl (by decide) (.slice (some ⟨gc, 0, none⟩) (J.length + 1) cc) (J.length + 1) JL rfl HCU.out ⟨wr.heap.size, 0, none⟩ 1 1 [.int .i64 (-1)] rfl rfl (news1 wr _ _) (by simp [Value.oneCell']) (by unfold maxLen; omega) (by omega) (by simp; omega) ?_; intro v2 w5 hown2 hgrow2 _; obtain ⟨A5, c5, rfl, _⟩ := own_form hown2; obtain ⟨hc5, hf5, hp5, hb5⟩ := HAFT.out w5 _ hgrow2 hown2; have HP5 := Lib.hid hp5; have HB5 := Lib.hid hb5; clear hown2 hgrow2 hp5 hb5))
              go_roundw
              case rel => exact ⟨k + 1, _, _, _, L, _, J ++ [z], -1, rfl, hlt, by go_num, by omega, by simp; omega, by omega, by omega, HP5, HN, HB5⟩
              case measure => simp [intOf]; omega
            · have hx1 : x ≠ 59 := fun e => h59 (by rw [e]; rfl)
              have hx2 : x ≠ 58 := fun e => h58 (by rw [e]; rfl)
              have hl48 : ∀ y ∈ s.data.toList, 48 ≤ y.toNat ∧ y.toNat ≤ 59 := fun y hy => by
                have := List.all_eq_true.1 HL.out y hy
                simp [headB] at this
                omega
              have hx48 := hl48 x (by rw [← HX.out]; exact List.getElem_mem hkl)
              have HN : Hid (GZ (s.data.toList.take (k + 1)) = L ++ [J ++ [upd x z]]) := Lib.hid (by rw [HTK.out, GZ_digit _ x hx1 hx2 (fun y hy => (hl48 y (List.mem_of_mem_take hy)).1), HZZ.out, modLast_snoc, modLast_snoc])
              have e1 : ((x.toNat : Int) == 59) = false := by simp; omega
              have e2 : ((x.toNat : Int) == 58) = false := by simp; omega
              have hcu : wr.ownsRow C 3 1 (.slice (some ⟨gc, 0, none⟩) (J.length + 1) cc) (J.length + 1) ((J ++ [z]).map (Value.int .i64)) := by
                have := HG.out.cur
                rw [List.length_append] at this
                exact this
              have hcz : wr.cell? ⟨gc, J.length, none⟩ = some (.int .i64 z) := by
                rw [hcu.cellAt J.length (by omega)]
                simp
              have hfz := hcu.frozenAt J.length
              have HST : Hid (∀ y, y = upd x z → PG (wr.setCell ⟨gc, J.length, none⟩ (.int .i64 y)) w.heap.size C (.slice (some ⟨g, 0, none⟩) (L.length + 1) c) L vals (J ++ [upd x z]) (.slice (some ⟨gc, 0, none⟩) (J.length + 1) cc) ∧ Below w.heap.size w (wr.setCell ⟨gc, J.length, none⟩ (.int .i64 y))) := Lib.hid fun y hy => by
                have h := PG.stored (by simp) HG.out J.length y
                rw [show (J ++ [z]).set J.length y = J ++ [y] by simp] at h
                subst hy
                exact ⟨h.1, HB.out.setCell (p := ⟨gc, J.length, none⟩) (Nat.le_trans HG.out.le h.2.2) _⟩
              have HUB : Hid (-1 ≤ upd x z ∧ upd x z ≤ 65535) := Lib.hid (by unfold upd; omega)
              have hx48' := hx48.1
              have hx59' := hx48.2
              clear h58 h59 hx1 hx2 hl48 hx48 HG HZZ HTK HX hcu HB
              by_cases hzn : z < 0
              · have HY := Lib.hid (HST.out ((x.toNat : Int) - 48) (by unfold upd; omega))
                have hbig : decide (65535 < (x.toNat : Int) - 48) = false := decide_eq_false (by omega)
                clear HST
                go_wp2
                go_roundw
                case rel => exact ⟨k + 1, _, _, _, L, _, J, upd x z, rfl, hlt, by go_num, by omega, by omega, HUB.out.1, HUB.out.2, Lib.hid HY.out.1, HN, Lib.hid HY.out.2⟩
                case measure => simp [intOf]; omega
              · have hzd : decide (z < 0) = false := decide_eq_false hzn
                by_cases hbg : 65535 < 10 * z + (x.toNat : Int) - 48
                · have HY := Lib.hid (HST.out 65535 (by unfold upd; omega))
                  have hbig : decide (65535 < 10 * z + (x.toNat : Int) - 48) = true := decide_eq_true hbg
                  clear HST hbg
                  go_wp2
                  go_roundw
                  case rel => exact ⟨k + 1, _, _, _, L, _, J, upd x z, rfl, hlt, by go_num, by omega, by omega, HUB.out.1, HUB.out.2, Lib.hid HY.out.1, HN, Lib.hid HY.out.2⟩
                  case measure => simp [intOf]; omega
                · have HY := Lib.hid (HST.out (10 * z + (x.toNat : Int) - 48) (by unfold upd; omega))
                  have hbig : decide (65535 < 10 * z + (x.toNat : Int) - 48) = false := decide_eq_false hbg
                  clear HST hbg
                  go_wp2
                  go_roundw
                  case rel => exact ⟨k + 1, _, _, _, L, _, J, upd x z, rfl, hlt, by go_num, by omega, by omega, HUB.out.1, HUB.out.2, Lib.hid HY.out.1, HN, Lib.hid HY.out.2⟩
                  case measure => simp [intOf]; omega
        · obtain rfl : k = s.size := by omega
          have hGL : GZ s.data.toList = L ++ [J ++ [z]] := by rw [← HZZ.out, List.take_of_length_le (by rw [HSZ.out]; exact Nat.le_refl _)]
          obtain ⟨g, c, rfl, hgB, hgz, _, _⟩ := HG.out.slot
          have hcap := own_cap HG.out.outer
          obtain ⟨vs, hvs⟩ : ∃ vs, vals ++ [vc] = vs := ⟨_, rfl⟩
          have hall := HG.out.all
          have hout := HG.out.outer
          rw [hvs, ← hGL] at hall
          rw [hvs] at hout
          have hN : L.length + 1 = (GZ s.data.toList).length := by rw [hGL]; simp
          obtain ⟨N, hNe⟩ : ∃ N, min (L.length + 1) 32 = N := ⟨_, rfl⟩
          have HCUT : Hid (wr.ownsRow w.heap.size 48 1 (.slice (some ⟨g, 0, none⟩) N c) N (vs.take N)) := Lib.hid (own_cut hout (by omega))
          have HRW : Hid (RW wr w.heap.size wr.heap.size ((GZ s.data.toList).take 32) (vs.take N)) := Lib.hid (by
            have h := hall.take N
            rw [show (GZ s.data.toList).take N = (GZ s.data.toList).take 32 by
              rw [← hNe, hN, Nat.min_comm, ← List.take_take, List.take_length]] at h
            exact h)
          have HLN : Hid (((GZ s.data.toList).take 32).length = N) := Lib.hid (by rw [List.length_take, ← hN, Nat.min_comm]; exact hNe)
          have HHZ : Hid (HZ s.data.toList = ((GZ s.data.toList).take 32).map (·.take 8)) := Lib.hid rfl
          generalize (GZ s.data.toList).take 32 = G at *
          have hLb : L.length ≤ 1000 := by omega
          have hcase : (decide (32 < (L.length : Int) + 1) = true ∧ N = 32) ∨ (decide (32 < (L.length : Int) + 1) = false ∧ N = L.length + 1) := by
            by_cases h : 32 < (L.length : Int) + 1
            · exact .inl ⟨decide_eq_true h, by omega⟩
            · exact .inr ⟨decide_eq_false h, by omega⟩
          clear hGL hvs hall hout hN hNe HG HZZ
          obtain ⟨C0, hC0⟩ : ∃ C0, wr.heap.size = C0 := ⟨_, rfl⟩
          rw [hC0] at HRW
          clear hC0
          rcases hcase with ⟨hd, hN32⟩ | ⟨hd, hN32⟩
          · subst hN32
            have h32c : (32 : Int) ≤ c := by simp at hd; omega
            have h32n : 32 ≤ c := by omega
            go_wp2
            go_loopw [10] (fun i wr => ∃ (k : Nat) (V : List Value), i = .int .i64 k ∧ k ≤ 32 ∧ Hid (wr.ownsRow w.heap.size 48 1 (.slice (some ⟨g, 0, none⟩) (32) c) (32) V) ∧ Hid (RW wr w.heap.size C0 (cutR G k) V) ∧ Hid (Below w.heap.size w wr)) (fun i _ => 32 - (intOf i).toNat)
            case atStart => exact ⟨0, _, rfl, Nat.zero_le _, HCUT, by rw [show cutR G 0 = G from by simp [cutR]]; exact HRW, HB⟩
            case round =>
              clear HB HCUT HRW
              obtain ⟨k, V, rfl, hk3, HO, HR, HB⟩ := hrel
              by_cases hlt3 : k < 32
              · have hkG : k < G.length := by rw [HLN.out]; exact hlt3
                have hki3 : (k : Int) < 32 := by omega
                have hrow := HR.out.row k (by rw [cutR_len]; exact hkG)
                rw [cutR_get G k hkG] at hrow
                have hkV : k < V.length := by rw [HR.out.len, cutR_len]; exact hkG
                rw [List.getElem?_eq_getElem hkV] at hrow
                obtain ⟨Ai, ci, hvi, hAi⟩ := own_form hrow.1
                have hcell : wr.cell? ⟨g, k, none⟩ = some (.slice Ai (G[k]?.getD []).length ci) := by
                  rw [HO.out.cellAt k (by omega), List.getElem?_eq_getElem hkV]
                  exact congrArg some hvi
                have hfz := HO.out.frozenAt k
                have hcap3 := own_cap (by rw [hvi] at hrow; exact hrow.1)
                have hgC : ∃ cs, wr.heap[g]? = some (.cells cs 48 (0, 0)) := own_type HO.out rfl
                by_cases h8 : 8 < (G[k]?.getD []).length
                · obtain ⟨gi, rfl⟩ := hAi (by omega)
                  have HNX : Hid ((wr.setCell ⟨g, k, none⟩ (.slice (some ⟨gi, 0, none⟩) 8 ci)).ownsRow w.heap.size 48 1 (.slice (some ⟨g, 0, none⟩) (32) c) (32) (V.set k (.slice (some ⟨gi, 0, none⟩) 8 ci)) ∧ RW (wr.setCell ⟨g, k, none⟩ (.slice (some ⟨gi, 0, none⟩) 8 ci)) w.heap.size C0 (cutR G (k + 1)) (V.set k (.slice (some ⟨gi, 0, none⟩) 8 ci)) ∧ Below w.heap.size w (wr.setCell ⟨g, k, none⟩ (.slice (some ⟨gi, 0, none⟩) 8 ci))) := Lib.hid (by
                    obtain ⟨cs, hcs⟩ := hgC
                    have hs := HO.out.stored k (.slice (some ⟨gi, 0, none⟩) 8 ci)
                    have hrk := HR.out.keptT hs.2 hcs ne_ii
                    have hrow1 := hrow.1
                    rw [hvi] at hrow1
                    have hcut := own_cut hrow1 (m := 8) (by omega)
                    have hcutk : (wr.setCell ⟨g, k, none⟩ (.slice (some ⟨gi, 0, none⟩) 8 ci)).ownsRow w.heap.size 3 1 (.slice (some ⟨gi, 0, none⟩) 8 ci) 8 (((G[k]?.getD []).map (Value.int .i64)).take 8) := by
                      refine hcut.kept hs.2 ?_
                      have := own_ne_type hcut HO.out (fun e => ne_ii e.symm)
                      exact this
                    have hset := hrk.set (xs := (G[k]?.getD []).take 8) (v := .slice (some ⟨gi, 0, none⟩) 8 ci) k (by rw [show ((G[k]?.getD []).take 8).length = 8 by rw [List.length_take]; omega, List.map_take]; exact hcutk) (fun b hb => by
                      have := hrow.2 b (by rw [hvi]; exact hb)
                      exact this)
                    rw [cutR_set G k hkG] at hset
                    exact ⟨hs.1, hset, HB.out.setCell (p := ⟨g, k, none⟩) hgB _⟩)
                  have h8i : (8 : Int) < ((G[k]?.getD []).length : Int) := by omega
                  have h8d : decide (8 < (G[k]?.getD []).length) = true := decide_eq_true h8
                  have h8c : 8 ≤ ci := by omega
                  clear hrow hkV HO HR HB hgC hAi hvi hkG
                  generalize (G[k]?.getD []).length = m at *
                  go_wp2
                  go_roundw
                  case rel => exact ⟨k + 1, _, by go_num, hlt3, Lib.hid HNX.out.1, Lib.hid HNX.out.2.1, Lib.hid HNX.out.2.2⟩
                  case measure => simp [intOf]; omega
                · have HNX : Hid (RW wr w.heap.size C0 (cutR G (k + 1)) V) := Lib.hid (by rw [← cutR_same G k hkG (by omega)]; exact HR.out)
                  have h8d : decide (8 < (G[k]?.getD []).length) = false := decide_eq_false h8
                  have h8i : decide (8 < ((G[k]?.getD []).length : Int)) = false := decide_eq_false (by omega)
                  clear hrow hkV HR hgC hAi hvi hkG h8
                  generalize (G[k]?.getD []).length = m at *
                  go_wp2
                  go_roundw
                  case rel => exact ⟨k + 1, V, by go_num, hlt3, HO, HNX, HB⟩
                  case measure => simp [intOf]; omega
              · obtain rfl : k = 32 := by omega
                have HE : Hid (RGt wr (some ⟨g, 0, none⟩) (HZ s.data.toList) ∧ (HZ s.data.toList).length = 32) := Lib.hid (by
                  have hr := HR.out
                  rw [show 32 = G.length from HLN.out.symm, cutR_end, ← HHZ.out] at hr
                  have hl : (HZ s.data.toList).length = 32 := by rw [HHZ.out, List.length_map, HLN.out]
                  exact ⟨RGt.of_rows HO.out hl.symm hr, hl⟩)
                clear HR HO
                go_wp2
                go_ret2
                exact .inr ⟨HL.out, _, c, by rw [HE.out.2]; rfl, HE.out.1, HB.out⟩
          · subst hN32
            go_wp2
            go_loopw [10] (fun i wr => ∃ (k : Nat) (V : List Value), i = .int .i64 k ∧ k ≤ L.length + 1 ∧ Hid (wr.ownsRow w.heap.size 48 1 (.slice (some ⟨g, 0, none⟩) (L.length + 1) c) (L.length + 1) V) ∧ Hid (RW wr w.heap.size C0 (cutR G k) V) ∧ Hid (Below w.heap.size w wr)) (fun i _ => L.length + 1 - (intOf i).toNat)
            case atStart => exact ⟨0, _, rfl, Nat.zero_le _, HCUT, by rw [show cutR G 0 = G from by simp [cutR]]; exact HRW, HB⟩
            case round =>
              clear HB HCUT HRW
              obtain ⟨k, V, rfl, hk3, HO, HR, HB⟩ := hrel
              by_cases hlt3 : k < L.length + 1
              · have hkG : k < G.length := by rw [HLN.out]; exact hlt3
                have hki3 : (k : Int) < L.length + 1 := by omega
                have hrow := HR.out.row k (by rw [cutR_len]; exact hkG)
                rw [cutR_get G k hkG] at hrow
                have hkV : k < V.length := by rw [HR.out.len, cutR_len]; exact hkG
                rw [List.getElem?_eq_getElem hkV] at hrow
                obtain ⟨Ai, ci, hvi, hAi⟩ := own_form hrow.1
                have hcell : wr.cell? ⟨g, k, none⟩ = some (.slice Ai (G[k]?.getD []).length ci) := by
                  rw [HO.out.cellAt k (by omega), List.getElem?_eq_getElem hkV]
                  exact congrArg some hvi
                have hfz := HO.out.frozenAt k
                have hcap3 := own_cap (by rw [hvi] at hrow; exact hrow.1)
                have hgC : ∃ cs, wr.heap[g]? = some (.cells cs 48 (0, 0)) := own_type HO.out rfl
                by_cases h8 : 8 < (G[k]?.getD []).length
                · obtain ⟨gi, rfl⟩ := hAi (by omega)
                  have HNX : Hid ((wr.setCell ⟨g, k, none⟩ (.slice (some ⟨gi, 0, none⟩) 8 ci)).ownsRow w.heap.size 48 1 (.slice (some ⟨g, 0, none⟩) (L.length + 1) c) (L.length + 1) (V.set k (.slice (some ⟨gi, 0, none⟩) 8 ci)) ∧ RW (wr.setCell ⟨g, k, none⟩ (.slice (some ⟨gi, 0, none⟩) 8 ci)) w.heap.size C0 (cutR G (k + 1)) (V.set k (.slice (some ⟨gi, 0, none⟩) 8 ci)) ∧ Below w.heap.size w (wr.setCell ⟨g, k, none⟩ (.slice (some ⟨gi, 0, none⟩) 8 ci))) := Lib.hid (by
                    obtain ⟨cs, hcs⟩ := hgC
                    have hs := HO.out.stored k (.slice (some ⟨gi, 0, none⟩) 8 ci)
                    have hrk := HR.out.keptT hs.2 hcs ne_ii
                    have hrow1 := hrow.1
                    rw [hvi] at hrow1
                    have hcut := own_cut hrow1 (m := 8) (by omega)
                    have hcutk : (wr.setCell ⟨g, k, none⟩ (.slice (some ⟨gi, 0, none⟩) 8 ci)).ownsRow w.heap.size 3 1 (.slice (some ⟨gi, 0, none⟩) 8 ci) 8 (((G[k]?.getD []).map (Value.int .i64)).take 8) := by
                      refine hcut.kept hs.2 ?_
                      have := own_ne_type hcut HO.out (fun e => ne_ii e.symm)
                      exact this
                    have hset := hrk.set (xs := (G[k]?.getD []).take 8) (v := .slice (some ⟨gi, 0, none⟩) 8 ci) k (by rw [show ((G[k]?.getD []).take 8).length = 8 by rw [List.length_take]; omega, List.map_take]; exact hcutk) (fun b hb => by
                      have := hrow.2 b (by rw [hvi]; exact hb)
                      exact this)
                    rw [cutR_set G k hkG] at hset
                    exact ⟨hs.1, hset, HB.out.setCell (p := ⟨g, k, none⟩) hgB _⟩)
                  have h8i : (8 : Int) < ((G[k]?.getD []).length : Int) := by omega
                  have h8d : decide (8 < (G[k]?.getD []).length) = true := decide_eq_true h8
                  have h8c : 8 ≤ ci := by omega
                  clear hrow hkV HO HR HB hgC hAi hvi hkG
                  generalize (G[k]?.getD []).length = m at *
                  go_wp2
                  go_roundw
                  case rel => exact ⟨k + 1, _, by go_num, hlt3, Lib.hid HNX.out.1, Lib.hid HNX.out.2.1, Lib.hid HNX.out.2.2⟩
                  case measure => simp [intOf]; omega
                · have HNX : Hid (RW wr w.heap.size C0 (cutR G (k + 1)) V) := Lib.hid (by rw [← cutR_same G k hkG (by omega)]; exact HR.out)
                  have h8d : decide (8 < (G[k]?.getD []).length) = false := decide_eq_false h8
                  have h8i : decide (8 < ((G[k]?.getD []).length : Int)) = false := decide_eq_false (by omega)
                  clear hrow hkV HR hgC hAi hvi hkG h8
                  generalize (G[k]?.getD []).length = m at *
                  go_wp2
                  go_roundw
                  case rel => exact ⟨k + 1, V, by go_num, hlt3, HO, HNX, HB⟩
                  case measure => simp [intOf]; omega
              · obtain rfl : k = L.length + 1 := by omega
                have HE : Hid (RGt wr (some ⟨g, 0, none⟩) (HZ s.data.toList) ∧ (HZ s.data.toList).length = L.length + 1) := Lib.hid (by
                  have hr := HR.out
                  rw [show L.length + 1 = G.length from HLN.out.symm, cutR_end, ← HHZ.out] at hr
                  have hl : (HZ s.data.toList).length = L.length + 1 := by rw [HHZ.out, List.length_map, HLN.out]
                  exact ⟨RGt.of_rows HO.out hl.symm hr, hl⟩)
                clear HR HO
                go_wp2
                go_ret2
                exact .inr ⟨HL.out, _, c, by rw [HE.out.2]; rfl, HE.out.1, HB.out⟩

end Go.Proofs.YtmmkcfjncpcabaaDoor

namespace Go.Proofs.YtmmkcfjncpcabaaDoor
open Go.RowKit

/-- A Run's block. -/
def RBl (W : World) (E : Nat) (v : Value) (st : Int) (hd : Nat) (A : Option Addr) (n c m : Nat) : Prop :=
  W.heap[E]? = some (.cells #[v, .int .i64 st, .int .i64 hd, .slice A n c, .int .i64 m] 32 (0, 0))
structure RM (W : World) (E : Nat) (A : Option Addr) (c : Nat) (zs : List Nat) (m : Nat) (es : List PE) (st : Int) (hd : Nat) : Prop where
  row : ∃ v cs, RBl W E v st hd A zs.length c m ∧ W.ownsRow (E + 1) 41 8 v es.length cs ∧ EvL W es cs
  bs : BS W E A zs
theorem RM.lt {W : World} {E : Nat} {A : Option Addr} {c : Nat} {zs : List Nat} {m : Nat} {es : List PE} {st : Int} {hd : Nat} (h : RM W E A c zs m es st hd) : E < W.heap.size := by
  obtain ⟨v, cs, h1, _⟩ := h.row
  exact lt_of_block h1
theorem RM.c3 {W : World} {E : Nat} {A : Option Addr} {c : Nat} {zs : List Nat} {m : Nat} {es : List PE} {st : Int} {hd : Nat} (h : RM W E A c zs m es st hd) : W.cell? ⟨E, 3, none⟩ = some (.slice A zs.length c) := by
  obtain ⟨v, cs, h1, _⟩ := h.row
  exact (cell_of_row _ _ 3 _ _ _ h1).trans rfl
theorem RM.c4 {W : World} {E : Nat} {A : Option Addr} {c : Nat} {zs : List Nat} {m : Nat} {es : List PE} {st : Int} {hd : Nat} (h : RM W E A c zs m es st hd) : W.cell? ⟨E, 4, none⟩ = some (.int .i64 m) := by
  obtain ⟨v, cs, h1, _⟩ := h.row
  exact (cell_of_row _ _ 4 _ _ _ h1).trans rfl
theorem RM.c1 {W : World} {E : Nat} {A : Option Addr} {c : Nat} {zs : List Nat} {m : Nat} {es : List PE} {st : Int} {hd : Nat} (h : RM W E A c zs m es st hd) : W.cell? ⟨E, 1, none⟩ = some (.int .i64 st) := by
  obtain ⟨v, cs, h1, _⟩ := h.row
  exact (cell_of_row _ _ 1 _ _ _ h1).trans rfl
theorem RM.c2 {W : World} {E : Nat} {A : Option Addr} {c : Nat} {zs : List Nat} {m : Nat} {es : List PE} {st : Int} {hd : Nat} (h : RM W E A c zs m es st hd) : W.cell? ⟨E, 2, none⟩ = some (.int .i64 hd) := by
  obtain ⟨v, cs, h1, _⟩ := h.row
  exact (cell_of_row _ _ 2 _ _ _ h1).trans rfl
theorem RM.free {W : World} {E : Nat} {A : Option Addr} {c : Nat} {zs : List Nat} {m : Nat} {es : List PE} {st : Int} {hd : Nat} (h : RM W E A c zs m es st hd) (k : Nat) : W.frozen? ⟨E, k, none⟩ = false := by
  obtain ⟨v, cs, h1, _⟩ := h.row
  unfold RBl at h1
  simp [World.frozen?, h1]
theorem RM.past {W W' : World} {E : Nat} {A : Option Addr} {c : Nat} {zs : List Nat} {m : Nat} {es : List PE} {st : Int} {hd : Nat} (h : RM W E A c zs m es st hd) (hb : Below W.heap.size W W') : RM W' E A c zs m es st hd := by
  have hlt := h.lt
  obtain ⟨v, cs, h1, h2, h3⟩ := h.row
  exact ⟨⟨v, cs, (hb.block E hlt).trans h1, own_past h2 hb, EvL.kept (NT.below hb) _ _ h3⟩, h.bs.below (hb.mono (Nat.le_of_lt hlt))⟩
/-- A store into the block itself. -/
theorem run_set {W : World} {E : Nat} {arr : Array Value} {k : Nat} {x : Value} (h : W.heap[E]? = some (.cells arr 32 (0, 0))) :
    (W.setCell ⟨E, k, none⟩ x).heap[E]? = some (.cells (arr.setIfInBounds k x) 32 (0, 0)) ∧ NT W (W.setCell ⟨E, k, none⟩ x) ∧ Below E W (W.setCell ⟨E, k, none⟩ x) ∧ (∀ v n xs, W.ownsRow (E + 1) 41 8 v n xs → (W.setCell ⟨E, k, none⟩ x).ownsRow (E + 1) 41 8 v n xs) := by
  refine ⟨heap_setCell_same W E k _ _ x h, fun b cur hb => ?_, (Below.refl E W).setCell (p := ⟨E, k, none⟩) (Nat.le_refl _) x, fun v n xs ho => ho.kept (⟨rfl, rfl, rfl, by simp, fun i _ hne => heap_setCell_other W ⟨E, k, none⟩ i x (fun e => hne (by rw [e]))⟩) (.inr (fun e => by have := (ho.lt E e).1; omega))⟩
  have hne : b ≠ E := by
    rintro rfl
    rcases hb with hb | hb <;> (rw [h] at hb; cases hb)
  exact heap_setCell_other _ ⟨E, k, none⟩ b x hne
theorem RM.setSt {W : World} {E : Nat} {A : Option Addr} {c : Nat} {zs : List Nat} {m : Nat} {es : List PE} {st : Int} {hd : Nat} (h : RM W E A c zs m es st hd) (st' : Int) : RM (W.setCell ⟨E, 1, none⟩ (.int .i64 st')) E A c zs m es st' hd ∧ Below E W (W.setCell ⟨E, 1, none⟩ (.int .i64 st')) := by
  obtain ⟨v, cs, h1, h2, h3⟩ := h.row
  obtain ⟨g1, g2, g3, g4⟩ := run_set (k := 1) (x := .int .i64 st') h1
  exact ⟨⟨⟨v, cs, g1, g4 _ _ _ h2, EvL.kept g2 _ _ h3⟩, h.bs.below g3⟩, g3⟩
theorem RM.setHd {W : World} {E : Nat} {A : Option Addr} {c : Nat} {zs : List Nat} {m : Nat} {es : List PE} {st : Int} {hd : Nat} (h : RM W E A c zs m es st hd) (hd' : Nat) : RM (W.setCell ⟨E, 2, none⟩ (.int .i64 hd')) E A c zs m es st hd' ∧ Below E W (W.setCell ⟨E, 2, none⟩ (.int .i64 hd')) := by
  obtain ⟨v, cs, h1, h2, h3⟩ := h.row
  obtain ⟨g1, g2, g3, g4⟩ := run_set (k := 2) (x := .int .i64 hd') h1
  exact ⟨⟨⟨v, cs, g1, g4 _ _ _ h2, EvL.kept g2 _ _ h3⟩, h.bs.below g3⟩, g3⟩
/-- What a call on a run leaves. -/
def RO (E : Nat) (A : Option Addr) (c : Nat) (zs : List Nat) (m : Nat) (es : List PE) (st : Int) (hd : Nat) (w w' : World) : Prop := RM w' E A c zs m es st hd ∧ Below E w w'
theorem add_end {W w5 : World} {E : Nat} {A : Option Addr} {c : Nat} {zs : List Nat} {m : Nat} {es : List PE} {st : Int} {hd : Nat} {v v2 : Value} {cs : List Value} {e : EVal} {p : PE} {o o' : Obj} (h1 : RBl W E v st hd A zs.length c m) (h2 : W.ownsRow (E + 1) 41 8 v es.length cs) (h3 : EvL W es cs) (hbs : BS W E A zs) (he : EOK W e p)
    (ho : w5.ownsRow (E + 1) 41 8 v2 (es.length + 1) (cs ++ e.cells)) (hg : ((W.alloc o).alloc o').grownBy w5 v.ownBlock) :
    w5.cell? ⟨E, 0, none⟩ = some v ∧ w5.frozen? ⟨E, 0, none⟩ = false ∧ RO E A c zs m (es ++ [p]) st hd W (w5.setCell ⟨E, 0, none⟩ v2) := by
  have hlt := lt_of_block h1
  have hz : ((W.alloc o).alloc o').heap.size = W.heap.size + 2 := by simp
  have hne : some E ≠ v.ownBlock := fun e => by have := (h2.lt E e.symm).1; omega
  have h5 : RBl w5 E v st hd A zs.length c m := (hg.block E (by omega) hne).trans (alloc_block (alloc_block h1))
  have hold : ∀ i, i < W.heap.size → ((W.alloc o).alloc o').heap[i]? = W.heap[i]? := fun i hi => (((Below.refl W.heap.size W).alloc (Nat.le_refl _) o).alloc (by simp) o').block i hi
  have hnt : NT W w5 := fun b cur hb => by
    have hbl : b < W.heap.size := by rcases hb with hb | hb <;> exact lt_of_block hb
    rw [hg.block b (by omega) (fun e => by
      obtain ⟨cu, hc⟩ := own_type h2 e.symm
      rcases hb with hb | hb <;> (rw [hc] at hb; cases hb)), hold b hbl]
  have hb5 : Below E W w5 := ⟨hg.os, hg.tape, hg.output, by have := hg.size; omega, fun i hi => by
    rw [hg.block i (by omega) (fun e => by have := (h2.lt i e.symm).1; omega), hold i (by omega)]⟩
  obtain ⟨g1, g2, g3, g4⟩ := run_set (k := 0) (x := v2) h5
  unfold RBl at h5
  refine ⟨(cell_of_row _ _ 0 _ _ _ h5).trans rfl, by simp [World.frozen?, h5], ⟨⟨v2, cs ++ e.cells, g1, ?_, ?_⟩, hbs.below (hb5.trans g3)⟩, hb5.trans g3⟩
  · rw [List.length_append]
    exact g4 _ _ _ ho
  · exact EvL.snoc ((he.kept hnt).kept g2) _ _ (EvL.kept g2 _ _ (EvL.kept hnt _ _ h3))
set_option maxRecDepth 100000 in
set_option maxHeartbeats 4000000 in
theorem add_any (w : World) (E : Nat) (A : Option Addr) (c : Nat) (zs : List Nat) (m : Nat) (es : List PE) (st : Int) (hd : Nat) (e : EVal) (p : PE) (h : RM w E A c zs m es st hd) (he : EOK w e p) (hn : es.length ≤ 100000) :
    Calls Tryd.prog 26 #[.pointer (some ⟨E, 0, none⟩), .agg #[.int .i64 e.kind, .int .i32 e.r, .int .u8 e.byte, .int .u8 e.pre, e.nums, .string e.inter, .string e.text, .bool e.cut]] w fun en w' => en = .returned (.tuple #[]) ∧ RO E A c zs m (es ++ [p]) st hd w w' := by
  obtain ⟨i0, hi0, hz0, hz1, hz2⟩ := info_parts Tryd.infoEvent
  have hlt := h.lt
  have f0 := h.free 0
  obtain ⟨v, cs, h1, h2, h3⟩ := h.row
  have hbs := h.bs
  have HEND : Hid (∀ w5 v2, ((w.alloc (.cells #[.int .i64 e.kind, .int .i32 e.r, .int .u8 e.byte, .int .u8 e.pre, e.nums, .string e.inter, .string e.text, .bool e.cut] 41)).alloc (.cells e.cells.toArray 41)).grownBy w5 v.ownBlock → w5.ownsRow (E + 1) 41 8 v2 (es.length + 1) (cs ++ e.cells) → w5.cell? ⟨E, 0, none⟩ = some v ∧ w5.frozen? ⟨E, 0, none⟩ = false ∧ RO E A c zs m (es ++ [p]) st hd w (w5.setCell ⟨E, 0, none⟩ v2)) := Lib.hid fun w5 v2 hg ho => add_end h1 h2 h3 hbs he ho hg
  have HOWN : Hid (((w.alloc (.cells #[.int .i64 e.kind, .int .i32 e.r, .int .u8 e.byte, .int .u8 e.pre, e.nums, .string e.inter, .string e.text, .bool e.cut] 41)).alloc (.cells e.cells.toArray 41)).ownsRow (E + 1) 41 8 v es.length cs) := Lib.hid ((h2.alloc _).alloc _)
  have c0 : w.cell? ⟨E, 0, none⟩ = some v := (cell_of_row _ _ 0 _ _ _ h1).trans rfl
  have HNW : Hid (∀ (j : Nat) (u : Value), e.cells[j]? = some u → ((w.alloc (.cells #[.int .i64 e.kind, .int .i32 e.r, .int .u8 e.byte, .int .u8 e.pre, e.nums, .string e.inter, .string e.text, .bool e.cut] 41)).drew.alloc (.cells e.cells.toArray 41)).cell? ((⟨w.heap.size + 1, 0, none⟩ : Addr).add j) = some u) := Lib.hid (by
    have h := news8 (w.alloc (.cells #[.int .i64 e.kind, .int .i32 e.r, .int .u8 e.byte, .int .u8 e.pre, e.nums, .string e.inter, .string e.text, .bool e.cut] 41)).drew e.cells 41
    rw [show (w.alloc (.cells #[.int .i64 e.kind, .int .i32 e.r, .int .u8 e.byte, .int .u8 e.pre, e.nums, .string e.inter, .string e.text, .bool e.cut] 41)).drew.heap.size = w.heap.size + 1 by simp] at h
    exact h)
  have HONE : Hid (∀ u ∈ e.cells, u.oneCell' = true) := Lib.hid (by
    obtain ⟨_, _, _, _, _, _, _, A', c', h8, _⟩ := he
    exact one_cells e (by rw [h8]; rfl))
  clear h h1 h2 h3 hbs he
  generalize es ++ [p] = es' at *
  generalize es.length = n at *
  go_enter Tryd.func26, Tryd.ntmps26
  go_wp2_with fail
  go_region_law (first
    | ((refine step_append_own_at rfl _ _ 29 rfl (E + 1) 41 i0 (.agg #[.int .i64 0, .int .i32 0, .int .u8 0, .int .u8 0, .slice none 0 0, .string ⟨#[]⟩, .string ⟨#[]⟩, .bool false]) 8 80 Tryd.underlying29 hi0 hz0 hz1 hz2 rfl (by decide) v n cs rfl HOWN.out ⟨w.heap.size + 1, 0, none⟩ 1 1 e.cells rfl rfl HNW.out HONE.out (by unfold maxLen; omega) (by omega) (by simp; omega) ?_); intro v2 w5 hown2 hgrow2 hat2; obtain ⟨A5, c5, rfl, _⟩ := own_form hown2; obtain ⟨hc5, hf5, hp5⟩ := HEND.out w5 _ (grown_drew2 hgrow2) hown2; have HP5 := Lib.hid hp5; clear hown2 hgrow2 hp5 hat2))
  all_goals
    go_end0
    exact ⟨rfl, HP5.out⟩

end Go.Proofs.YtmmkcfjncpcabaaDoor

namespace Go.Proofs.YtmmkcfjncpcabaaDoor
open Go.RowKit

/-- So much was told and taken before. -/
def RX.be (l : List PE) (k : Nat) (r : RX) : RX := ⟨l ++ r.es, r.st, r.hd, k + r.n⟩
theorem be_be (l l' : List PE) (k k' : Nat) (r : RX) : RX.be l k (RX.be l' k' r) = RX.be (l ++ l') (k + k') r := by
  unfold RX.be
  rw [List.append_assoc, Nat.add_assoc]
theorem up_be (k : Nat) (r : RX) : r.up k = RX.be [] k r := by
  unfold RX.up RX.be
  rw [Nat.add_comm k]
  rfl
theorem cons_be (e : PE) (r : RX) : r.cons e = RX.be [e] 1 r := by
  unfold RX.cons RX.be
  rw [Nat.add_comm 1]
  rfl
theorem be_nil (r : RX) : RX.be [] 0 r = r := by
  unfold RX.be
  rw [Nat.zero_add]
  rfl
theorem bsB_app (l m : List UInt8) : bsB l ++ bsB m = bsB (l ++ m) := by
  apply ByteArray.ext
  simp [bsB]
theorem bsB_size (l : List UInt8) : (bsB l).size = l.length := by simp [bsB, ByteArray.size]
theorem bsB_extract (l : List UInt8) (i j : Nat) : (bsB l).extract i j = bsB ((l.take j).drop i) := by
  apply ByteArray.ext
  simp [bsB, List.drop_take]
theorem conv_one (w : World) (x : UInt8) (z : Int) (hz : z = x.toNat) : (Go.convert 22 9 (.slice (some ⟨w.heap.size, 0, none⟩) 1 1)).run Tryd.prog (w.alloc (.cells #[.int .u8 z] 5)) = .ok (.string (bsB [x])) (w.alloc (.cells #[.int .u8 z] 5)) := by
  subst hz
  exact run_convert_bytes_back (P := Tryd.prog) (w.alloc (.cells #[.int .u8 x.toNat] 5)) 22 9 5 ⟨w.heap.size, 0, none⟩ 1 [x] (by kernel_rfl) (by kernel_rfl) (by kernel_rfl) (fun j hj => by
    have hj0 : j = 0 := by simpa using hj
    subst hj0
    have h := news8 w [Value.int .u8 x.toNat] 5 0 _ rfl
    exact h)
set_option maxRecDepth 100000 in
theorem stops_any (c : Nat) (w : World) : Calls Tryd.prog 37 #[.int .u8 c] w fun e w' => e = .returned (.bool (stopB c)) ∧ w = w' := by
  have e : stopB c = (((c : Int) == 24) || ((c : Int) == 26) || ((c : Int) == 27)) := by
    unfold stopB
    by_cases h1 : c = 24
    · simp [h1]
    by_cases h2 : c = 26
    · simp [h2]
    by_cases h3 : c = 27
    · simp [h3]
    have : ¬ (c : Int) = 24 ∧ ¬ (c : Int) = 26 ∧ ¬ (c : Int) = 27 := by omega
    simp [h1, h2, h3, this]
  rw [e]
  clear e
  generalize (c : Int) = z
  by_cases h1 : z = 24
  · subst h1
    go_enter Tryd.func37, Tryd.ntmps37
    go_wp2
    go_ret
    exact ⟨rfl, rfl⟩
  · have r1 : (z == 24) = false := by simpa using h1
    by_cases h2 : z = 26
    · subst h2
      go_enter Tryd.func37, Tryd.ntmps37
      go_wp2
      go_ret
      exact ⟨rfl, rfl⟩
    · have r2 : (z == 26) = false := by simpa using h2
      rw [r1, r2]
      go_enter Tryd.func37, Tryd.ntmps37
      go_wp2
      go_ret
      exact ⟨by simp, rfl⟩
set_option maxRecDepth 100000 in
theorem cut_any (w : World) (E : Nat) (A : Option Addr) (c : Nat) (zs : List Nat) (m : Nat) (es : List PE) (st : Int) (hd : Nat) (T : List UInt8) (h : RM w E A c zs m es st hd) :
    Calls Tryd.prog 55 #[.pointer (some ⟨E, 0, none⟩), .string (bsB T)] w fun e w' => e = .returned (.tuple #[.string (bsB (T.take m)), .bool (decide (m < T.length))]) ∧ w = w' := by
  have c4 := h.c4
  have hz := bsB_size T
  by_cases hl : m < T.length
  · have hx : (bsB T).extract 0 m = bsB (T.take m) := by rw [bsB_extract, List.drop_zero]
    have hli : (m : Int) < (bsB T).size := by omega
    rw [decide_eq_true hl, ← hx]
    clear hx hl h
    generalize bsB T = S at *
    go_enter Tryd.func55, Tryd.ntmps55
    go_wp2
    go_ret2
    exact ⟨rfl, rfl⟩
  · have hli : ¬ (m : Int) < (bsB T).size := by omega
    rw [decide_eq_false hl, List.take_of_length_le (Nat.le_of_not_lt hl)]
    clear hl h
    generalize bsB T = S at *
    go_enter Tryd.func55, Tryd.ntmps55
    go_wp2
    go_ret2
    exact ⟨rfl, rfl⟩

end Go.Proofs.YtmmkcfjncpcabaaDoor

namespace Go.Proofs.YtmmkcfjncpcabaaDoor
open Go.RowKit

/-- What a part of a run leaves. -/
def RQ (E : Nat) (A : Option Addr) (c : Nat) (zs : List Nat) (m : Nat) (es : List PE) (at0 : Nat) (R : RX) (w : World) (e : Ending) (w' : World) : Prop :=
  e = .returned (.int .i64 (at0 + R.n : Nat)) ∧ RO E A c zs m (es ++ R.es) R.st R.hd w w'
theorem drop_at (zs : List Nat) (k : Nat) (h : k < zs.length) : zs.drop k = zs[k]?.getD 0 :: zs.drop (k + 1) := by
  rw [List.drop_eq_getElem_cons h, List.getElem?_eq_getElem h]; rfl
/-- The byte at a place. -/
theorem RM.byte {W : World} {E : Nat} {A : Option Addr} {c : Nat} {zs : List Nat} {m : Nat} {es : List PE} {st : Int} {hd : Nat} (h : RM W E A c zs m es st hd) (k : Nat) (hk : k < zs.length) : ∃ b off, A = some ⟨b, off, none⟩ ∧ W.cell? ⟨b, off + k, none⟩ = some (.int .u8 (zs[k]?.getD 0)) ∧ zs[k]?.getD 0 < 256 := by
  obtain ⟨b, off, e, _, hc⟩ := h.bs.2 (fun e => by rw [e] at hk; simp at hk)
  exact ⟨b, off, e, hc k hk, by rw [List.getElem?_eq_getElem hk]; exact h.bs.1 _ (List.getElem_mem hk)⟩
theorem oscE_ok (w : World) (m : Nat) (acc : List UInt8) : EOK w ⟨4, 0, 0, 0, .slice none 0 0, ⟨#[]⟩, bsB (acc.take m), decide (m < acc.length)⟩ (oscE' m acc) := ⟨rfl, rfl, rfl, rfl, rfl, rfl, rfl, none, 0, rfl, rg_nil w⟩
set_option maxRecDepth 100000 in
set_option maxHeartbeats 8000000 in
theorem command_any (w : World) (E : Nat) (A : Option Addr) (c : Nat) (zs : List Nat) (m : Nat) (es : List PE) (at0 : Nat) (h : RM w E A c zs m es 0 0) (_ : zs.length ≤ c) (hat : at0 ≤ zs.length) (hz : zs.length ≤ 1000) (hn : es.length ≤ 50000) :
    Calls Tryd.prog 41 #[.pointer (some ⟨E, 0, none⟩), .int .i64 at0] w (RQ E A c zs m es at0 (cmdR m [] (zs.drop at0)) w) := by
  obtain ⟨R, hR⟩ : ∃ R, R = cmdR m [] (zs.drop at0) := ⟨_, rfl⟩
  have HR : Hid (R = RX.be [] 0 (cmdR m [] (zs.drop at0))) := Lib.hid (by rw [be_nil]; exact hR)
  rw [← hR]
  clear hR
  have HI := Lib.hid h
  clear h
  obtain ⟨n, hnz⟩ : ∃ n, n = zs.length := ⟨_, rfl⟩
  have HNZ := Lib.hid hnz
  have HC : Hid (∀ W T, RM W E A c zs m es 0 0 → Calls Tryd.prog 55 #[.pointer (some ⟨E, 0, none⟩), .string (bsB T)] W fun e w' => e = .returned (.tuple #[.string (bsB (T.take m)), .bool (decide (m < T.length))]) ∧ W = w') := Lib.hid fun W T hm => cut_any W E A c zs m es 0 0 T hm
  have HA : Hid (∀ W T, RM W E A c zs m es 0 0 → Calls Tryd.prog 26 #[.pointer (some ⟨E, 0, none⟩), .agg #[.int .i64 4, .int .i32 0, .int .u8 0, .int .u8 0, .slice none 0 0, .string ⟨#[]⟩, .string (bsB (T.take m)), .bool (decide (m < T.length))]] W fun en w' => en = .returned (.tuple #[]) ∧ RO E A c zs m (es ++ [oscE' m T]) 0 0 W w') := Lib.hid fun W T hm => add_any W E A c zs m es 0 0 ⟨4, 0, 0, 0, .slice none 0 0, ⟨#[]⟩, bsB (T.take m), decide (m < T.length)⟩ (oscE' m T) hm (oscE_ok W m T) (by omega)
  go_enter Tryd.func41, Tryd.ntmps41
  go_wp2
  go_loopw [1, 5] (fun i s wr => ∃ (k : Nat) (T : List UInt8) (S : ByteArray), at0 + k ≤ n ∧ i = .int .i64 (at0 + k : Nat) ∧ s = .string S ∧ T.length ≤ k ∧ Hid (S = bsB T) ∧ Hid (R = RX.be [] k (cmdR m T (zs.drop (at0 + k)))) ∧ Hid (RM wr E A c zs m es 0 0) ∧ Hid (Below E w wr)) (fun i _ _ => n - (intOf i).toNat)
  case atStart => exact ⟨0, [], _, by omega, rfl, rfl, Nat.le_refl _, Lib.hid rfl, HR, HI, Lib.hid (Below.refl _ _)⟩
  case round =>
    obtain ⟨k, T, S, hk, rfl, rfl, hT, HS, HK, HM, HB⟩ := hrel
    have hc3 := HM.out.c3
    rw [← HNZ.out] at hc3
    by_cases hlt : at0 + k < n
    · obtain ⟨b, off, rfl, hb, hb8⟩ := HM.out.byte (at0 + k) (by rw [← HNZ.out]; exact hlt)
      have hlti : ((at0 + k : Nat) : Int) < n := by omega
      have HD : Hid (R = RX.be [] k (cmdR m T (zs[at0 + k]?.getD 0 :: zs.drop (at0 + k + 1)))) := Lib.hid (by rw [HK.out, drop_at zs (at0 + k) (by rw [← HNZ.out]; exact hlt)])
      generalize zs[at0 + k]?.getD 0 = z at *
      clear HK HR
      obtain ⟨p, hp⟩ : ∃ p, p = at0 + k := ⟨_, rfl⟩
      have hoff : off + (at0 + k) = off + p := by rw [hp]
      rw [hoff] at hb
      rw [← hp] at hlti hk hlt HD
      rw [← hp]
      clear hoff
      by_cases z1 : z = 24 ∨ z = 26
      · have hq : RQ E (some ⟨b, off, none⟩) c zs m es at0 R w (.returned (.int .i64 p)) wr := by
          have e : R = ⟨[], 0, 0, k⟩ := by
            rw [HD.out]
            unfold cmdR
            rw [if_pos z1]
            rfl
          rw [e]
          exact ⟨by rw [hp], by rw [List.append_nil]; exact HM.out, HB.out⟩
        have HQ := Lib.hid hq
        clear hq hp
        rcases z1 with rfl | rfl
        all_goals
          go_wp2
          go_ret
          exact HQ.out
      have z24 : ((z : Int) == 24) = false := by simp; omega
      have z26 : ((z : Int) == 26) = false := by simp; omega
      by_cases z2 : z = 7 ∨ z = 27
      · have HQ : Hid (∀ W', RO E (some ⟨b, off, none⟩) c zs m (es ++ [oscE' m T]) 0 0 wr W' → RQ E (some ⟨b, off, none⟩) c zs m es at0 R w (.returned (.int .i64 (p + (if z = 7 then 1 else 0) : Nat))) W') := Lib.hid fun W' hw => by
          have e : R = ⟨[oscE' m T], 0, 0, k + (if z = 7 then 1 else 0)⟩ := by
            rw [HD.out]
            unfold cmdR
            rw [if_neg z1, if_pos z2]
            rfl
          rw [e]
          exact ⟨by rw [hp, Nat.add_assoc], hw.1, HB.out.trans hw.2⟩
        clear hp
        rw [HS.out] at *
        rcases z2 with rfl | rfl
        · rw [if_pos rfl] at HQ
          go_wp2_with (first
            | (go_at_call 55; (with_reducible refine (HC.out wr T HM.out).mono ?_); rintro e w2 ⟨rfl, rfl⟩)
            | (go_at_call 26; (with_reducible refine (HA.out wr T HM.out).mono ?_); rintro e w3 ⟨rfl, h3⟩; have H3 := Lib.hid h3; clear h3))
          go_ret
          exact HQ.out _ H3.out
        · rw [if_neg (by omega)] at HQ
          go_wp2_with (first
            | (go_at_call 55; (with_reducible refine (HC.out wr T HM.out).mono ?_); rintro e w2 ⟨rfl, rfl⟩)
            | (go_at_call 26; (with_reducible refine (HA.out wr T HM.out).mono ?_); rintro e w3 ⟨rfl, h3⟩; have H3 := Lib.hid h3; clear h3))
          go_ret
          exact HQ.out _ H3.out
      have z7 : ((z : Int) == 7) = false := by simp; omega
      have z27 : ((z : Int) == 27) = false := by simp; omega
      by_cases z3 : 32 ≤ z ∧ ¬ z = 127
      · have z32 : decide (32 ≤ (z : Int)) = true := decide_eq_true (by omega)
        have z127 : ((z : Int) == 127) = false := by simp; omega
        have hcv := conv_one wr (UInt8.ofNat z) z (by rw [u8n z hb8])
        have HS2 : Hid (S ++ bsB [UInt8.ofNat z] = bsB (T ++ [UInt8.ofNat z])) := Lib.hid (by rw [HS.out, bsB_app])
        have HK2 : Hid (R = RX.be [] (k + 1) (cmdR m (T ++ [UInt8.ofNat z]) (zs.drop (at0 + (k + 1))))) := Lib.hid (by
          rw [HD.out]
          conv => lhs; unfold cmdR
          rw [if_neg z1, if_neg z2, if_pos z3, up_be, be_be, hp]
          rfl)
        have HM2 : Hid (RM (wr.alloc (.cells #[.int .u8 z] 5)) E (some ⟨b, off, none⟩) c zs m es 0 0) := Lib.hid (HM.out.past ((Below.refl _ _).alloc (Nat.le_refl _) _))
        have HB2 : Hid (Below E w (wr.alloc (.cells #[.int .u8 z] 5))) := Lib.hid (HB.out.trans ((Below.refl _ _).alloc (Nat.le_of_lt HM.out.lt) _))
        have hYS : (bsB [UInt8.ofNat z]).size = 1 := by rw [bsB_size]; rfl
        have hSS : S.size ≤ 1000 := by rw [HS.out, bsB_size]; omega
        generalize bsB [UInt8.ofNat z] = Y at *
        have HP := Lib.hid hp
        clear HS HM HB z3 hp
        go_wp2
        have hp := HP.out
        exact ⟨⟨k + 1, _, _, by omega, by rw [hp]; go_num, rfl, by simp; omega, HS2, HK2, HM2, HB2⟩, by simp [intOf]; omega⟩
      · have zz : decide (32 ≤ (z : Int)) = false ∨ decide (32 ≤ (z : Int)) = true ∧ ((z : Int) == 127) = true := by
          by_cases h : 32 ≤ (z : Int)
          · exact .inr ⟨decide_eq_true h, by simp; omega⟩
          · exact .inl (decide_eq_false h)
        have HK2 : Hid (R = RX.be [] (k + 1) (cmdR m T (zs.drop (at0 + (k + 1))))) := Lib.hid (by
          rw [HD.out]
          conv => lhs; unfold cmdR
          rw [if_neg z1, if_neg z2, if_neg z3, up_be, be_be, hp]
          rfl)
        have HP := Lib.hid hp
        clear z3 hp
        rcases zz with zz | ⟨zz, zz2⟩
        all_goals
          go_wp2
          have hp := HP.out
          exact ⟨⟨k + 1, _, _, by omega, by rw [hp]; go_num, rfl, by omega, HS, HK2, HM, HB⟩, by simp [intOf]; omega⟩
    · have hlti : ¬ ((at0 + k : Nat) : Int) < n := by omega
      have c1 := HM.out.c1
      have c2 := HM.out.c2
      have f1 := HM.out.free 1
      have f2 := HM.out.free 2
      have HQ : Hid (∀ W, W = wr → RQ E A c zs m es at0 R w (.returned (.int .i64 ((at0 : Int) + k))) ((W.setCell ⟨E, 1, none⟩ (.int .i64 4)).setCell ⟨E, 2, none⟩ (.int .i64 ((bsB (T.take m)).size : Nat)))) := Lib.hid fun W hW => by
        subst hW
        have e : R = ⟨[], 4, (bsB (T.take m)).size, k⟩ := by
          rw [HK.out, List.drop_of_length_le (by rw [← HNZ.out]; omega), bsB_size, List.length_take]
          unfold cmdR RX.be
          rw [Nat.min_comm]
          rfl
        rw [e]
        obtain ⟨q1, q2⟩ := HM.out.setSt 4
        obtain ⟨q3, q4⟩ := q1.setHd (bsB (T.take m)).size
        exact ⟨by simp, by rw [List.append_nil]; exact q3, HB.out.trans (q2.trans q4)⟩
      rw [HS.out] at *
      go_wp2_with (first
        | (go_at_call 55; (with_reducible refine (HC.out wr T HM.out).mono ?_); rintro e w2 ⟨rfl, rfl⟩))
      go_ret
      exact HQ.out _ rfl

end Go.Proofs.YtmmkcfjncpcabaaDoor

namespace Go.Proofs.YtmmkcfjncpcabaaDoor
open Go.RowKit

theorem results_tmp4 {fn : Func} {t u v x : Tmp} (h : fn.results = #[.tmp t, .tmp u, .tmp v, .tmp x]) (tmps : Array Value) (P : Program) (w : World) :
    (results fn tmps).run P w = .ok (.tuple #[tmps.getD t undef, tmps.getD u undef, tmps.getD v undef, tmps.getD x undef]) w := by
  simp [results, h]
def PartsPost (acc : List UInt8) (w : World) (e : Ending) (w' : World) : Prop :=
  Below w.heap.size w w' ∧ ((∃ p h i, partsP acc = some (p, h, i) ∧ e = .returned (.tuple #[.int .u8 p, .string (bsB h), .string (bsB i), .bool true])) ∨ (partsP acc = none ∧ ∃ p S1 S2, e = .returned (.tuple #[.int .u8 p, .string S1, .string S2, .bool false])))
theorem head_len {l : List UInt8} {k : Nat} (h1 : headL (l.take k) = true) (_ : k ≤ l.length) (h2 : k = l.length ∨ ∃ h : k < l.length, headB l[k] = false) : l.takeWhile headB = l.take k := by
  have e : l = l.take k ++ l.drop k := (List.take_append_drop k l).symm
  have hall : (l.take k).takeWhile headB = l.take k := by
    have : ∀ m : List UInt8, m.all headB = true → m.takeWhile headB = m := fun m => by
      induction m with
      | nil => intro _; rfl
      | cons y m ih =>
        intro h
        rw [List.all_cons, Bool.and_eq_true] at h
        rw [List.takeWhile_cons, if_pos h.1, ih h.2]
    exact this _ h1
  conv => lhs; rw [e]
  rw [List.takeWhile_append, if_pos (by rw [hall])]
  rcases h2 with h2 | ⟨h, h2⟩
  · rw [List.drop_of_length_le (by omega)]
    simp
  · rw [List.drop_eq_getElem_cons h, List.takeWhile_cons, if_neg (by rw [h2]; simp), List.append_nil]
theorem headL_takeS (l : List UInt8) (k : Nat) (h : k < l.length) (h1 : headL (l.take k) = true) (h2 : headB (l[k]'h) = true) : headL (l.take (k + 1)) = true := by
  rw [List.take_succ_eq_append_getElem h]
  unfold headL at h1 ⊢
  rw [List.all_append, h1]
  simp [h2]
def lowB (x : UInt8) : Bool := decide (x.toNat ≤ 47)
theorem low_take (l : List UInt8) (k j : Nat) (h : k + j < l.length) (h1 : ((l.drop k).take j).all lowB = true) (h2 : lowB (l[k + j]'h) = true) : ((l.drop k).take (j + 1)).all lowB = true := by
  have hd : j < (l.drop k).length := by rw [List.length_drop]; omega
  rw [List.take_succ_eq_append_getElem hd, List.all_append, h1]
  simp [List.getElem_drop, h2]
theorem low_no (l : List UInt8) (k j : Nat) (h : k + j < l.length) (h2 : lowB (l[k + j]'h) = false) : (l.drop k).all lowB = false := by
  rw [List.all_eq_false]
  refine ⟨l[k + j], ?_, by rw [h2]; simp⟩
  have hd : j < (l.drop k).length := by rw [List.length_drop]; omega
  have := List.getElem_mem hd
  rw [List.getElem_drop] at this
  exact this
theorem partsT_of {p : Int} {t : List UInt8} {k : Nat} (h : t.takeWhile headB = t.take k) (hk : k ≤ t.length) : partsT p t = if (t.drop k).all lowB = true ∧ k ≤ 256 ∧ t.length - k ≤ 2 then some (p, t.take k, t.drop k) else none := by
  have hl : (t.takeWhile headB).length = k := by rw [h, List.length_take]; omega
  unfold partsT
  rw [hl, h, List.length_drop]
  rfl
theorem bsB_of (s : ByteArray) (i j : Nat) : s.extract i j = bsB ((s.data.toList.take j).drop i) := by
  have : s = bsB s.data.toList := by apply ByteArray.ext; simp [bsB]
  conv => lhs; rw [this]
  exact bsB_extract _ _ _
set_option maxRecDepth 100000 in
set_option maxHeartbeats 8000000 in
theorem parts_any (s : ByteArray) (w : World) (hs : s.size ≤ 1000) : Calls Tryd.prog 53 #[.string s] w (PartsPost s.data.toList w) := by
  have HSZ0 : Hid (s.data.toList.length = s.size) := Lib.hid (by simp)
  obtain ⟨acc, hacc⟩ : ∃ acc, acc = s.data.toList := ⟨_, rfl⟩
  have HACC := Lib.hid hacc
  rw [← hacc]
  clear hacc
  by_cases h0 : 0 < s.size
  · have h0i : (0 : Int) < s.size := by omega
    have hl0 : 0 < s.data.toList.length := by rw [HSZ0.out]; exact h0
    obtain ⟨x, hx⟩ : ∃ x, s[0] = x := ⟨_, rfl⟩
    have HX : Hid (∃ t, s.data.toList = x :: t ∧ (s.extract 1 s.size).data.toList = t) := Lib.hid (by
      have e1 : s.data.toList[0]'hl0 = x := by rw [← hx]; rfl
      cases hl : s.data.toList with
      | nil => rw [hl] at hl0; simp at hl0
      | cons y t =>
        simp only [hl, List.getElem_cons_zero] at e1
        refine ⟨t, by rw [e1], ?_⟩
        rw [bsB_of, hl]
        have h2 : s.size = t.length + 1 := by rw [← HSZ0.out, hl]; rfl
        rw [h2]
        simp [bsB])
    by_cases h60 : 60 ≤ x.toNat
    · have r0 : decide (60 ≤ (x.toNat : Int)) = true := decide_eq_true (by omega)
      have HPP : Hid (partsP acc = partsT (x.toNat : Int) (s.extract 1 s.size).data.toList) := Lib.hid (by
        obtain ⟨t, e1, e2⟩ := HX.out
        rw [HACC.out, e1, e2, partsP_cons, if_pos h60])
      have hsz : (s.extract 1 s.size).size ≤ 1000 := by simp; omega
      clear HX h60
      go_enter Tryd.func53, Tryd.ntmps53
      go_wp2
      generalize s.extract 1 s.size = s' at *
      generalize (x.toNat : Int) = p at *
      have HSZ : Hid (s'.data.toList.length = s'.size) := Lib.hid (by simp)
      go_loop [7] (fun i => ∃ k : Nat, k ≤ s'.size ∧ i = .int .i64 k ∧ Hid (headL (s'.data.toList.take k) = true)) (fun i => s'.size - (intOf i).toNat)
      case atStart => exact ⟨0, Nat.zero_le _, rfl, Lib.hid rfl⟩
      case round =>
        obtain ⟨k, hk, rfl, HK⟩ := hrel
        by_cases hlt : k < s'.size
        · have hki : (k : Int) < s'.size := by omega
          have hkl : k < s'.data.toList.length := by rw [HSZ.out]; exact hlt
          obtain ⟨x, hx⟩ : ∃ x, s'[k] = x := ⟨_, rfl⟩
          have HX : Hid (s'.data.toList[k]'hkl = x) := Lib.hid (by rw [← hx]; rfl)
          by_cases hb : headB x = true
          · have HN := Lib.hid (headL_takeS s'.data.toList k hkl HK.out (by rw [HX.out]; exact hb))
            have h1 : decide (48 ≤ (x.toNat : Int)) = true := by simp [headB] at hb; simp; omega
            have h2 : decide ((x.toNat : Int) ≤ 59) = true := by simp [headB] at hb; simp; omega
            clear hb HX HK
            go_wp2
            go_round
            case rel => exact ⟨k + 1, hlt, by go_num, HN⟩
            case measure => simp [intOf]; omega
          · have hb' : headB x = false := by simpa using hb
            have HT : Hid (s'.data.toList.takeWhile headB = s'.data.toList.take k) := Lib.hid (head_len HK.out (Nat.le_of_lt hkl) (.inr ⟨hkl, by rw [HX.out]; exact hb'⟩))
            have h12 : decide (48 ≤ (x.toNat : Int)) = false ∨ decide (48 ≤ (x.toNat : Int)) = true ∧ decide ((x.toNat : Int) ≤ 59) = false := by
              by_cases h : 48 ≤ (x.toNat : Int)
              · exact .inr ⟨decide_eq_true h, decide_eq_false (fun h2 => hb (by simp [headB]; omega))⟩
              · exact .inl (decide_eq_false h)
            clear hb hb' HX
            rcases h12 with h1 | ⟨h1, h2⟩
            all_goals
              have HPT : Hid (partsT p s'.data.toList = if (s'.data.toList.drop k).all lowB = true ∧ k ≤ 256 ∧ s'.data.toList.length - k ≤ 2 then some (p, s'.data.toList.take k, s'.data.toList.drop k) else none) := Lib.hid (partsT_of HT.out (by rw [HSZ.out]; omega))
              clear HK HT
              go_wp2
              go_loop [8] (fun i => ∃ j : Nat, k + j ≤ s'.size ∧ i = .int .i64 (k + j : Nat) ∧ Hid (((s'.data.toList.drop k).take j).all lowB = true)) (fun i => s'.size - (intOf i).toNat)
              case atStart => exact ⟨0, by omega, by first | rfl | simp, Lib.hid rfl⟩
              case round =>
                obtain ⟨j, hj, rfl, HJ⟩ := hrel
                by_cases hlt2 : k + j < s'.size
                · have hki2 : ((k + j : Nat) : Int) < s'.size := by omega
                  have hkl2 : k + j < s'.data.toList.length := by rw [HSZ.out]; exact hlt2
                  obtain ⟨y, hy⟩ : ∃ y, s'[k + j] = y := ⟨_, rfl⟩
                  have HY : Hid (s'.data.toList[k + j]'hkl2 = y) := Lib.hid (by rw [← hy]; rfl)
                  obtain ⟨q, hq⟩ : ∃ q, q = k + j := ⟨_, rfl⟩
                  by_cases hb2 : lowB y = true
                  · have HN2 := Lib.hid (low_take s'.data.toList k j hkl2 HJ.out (by rw [HY.out]; exact hb2))
                    have h5 : decide ((y.toNat : Int) > 47) = false := by have := of_decide_eq_true hb2; exact decide_eq_false (by omega)
                    clear hb2 HY HJ hq
                    go_wp2
                    go_round
                    case rel => exact ⟨j + 1, by omega, by go_num, HN2⟩
                    case measure => simp [intOf]; omega
                  · have hb3 : lowB y = false := by simpa using hb2
                    have HNO := Lib.hid (low_no s'.data.toList k j hkl2 (by rw [HY.out]; exact hb3))
                    have h5 : decide ((y.toNat : Int) > 47) = true := by have := of_decide_eq_false hb3; exact decide_eq_true (by omega)
                    clear hb2 hb3 HY HJ hq
                    go_wp2
                    all_goals
                      (try simp only [Exit.inBlock, Exit.then])
                      refine bodyPost_ret (results_tmp4 rfl _ _ _) rfl ?_
                      exact ⟨Below.refl _ _, .inr ⟨by rw [HPP.out, HPT.out, HNO.out]; simp, _, _, _, rfl⟩⟩
                · have hki2 : ¬ ((k + j : Nat) : Int) < s'.size := by omega
                  have HALL : Hid ((s'.data.toList.drop k).all lowB = true) := Lib.hid (by
                    have := HJ.out
                    rw [List.take_of_length_le (by rw [List.length_drop, HSZ.out]; omega)] at this
                    exact this)
                  clear HJ
                  by_cases c1 : k ≤ 256
                  · have d1 : decide ((k : Int) ≤ 256) = true := decide_eq_true (by omega)
                    by_cases c2 : s'.size - k ≤ 2
                    · have d2 : decide ((s'.size : Int) - k ≤ 2) = true := decide_eq_true (by omega)
                      have HR : Hid (partsP acc = some (p, s'.data.toList.take k, s'.data.toList.drop k)) := Lib.hid (by rw [HPP.out, HPT.out, if_pos ⟨HALL.out, c1, by rw [HSZ.out]; exact c2⟩])
                      go_wp2
                      all_goals
                        go_quiet (fail)
                        go_wp2
                        (try simp only [Exit.inBlock, Exit.then])
                        refine bodyPost_ret (results_tmp4 rfl _ _ _) rfl ?_
                        exact ⟨belowN (Below.refl _ _) _, .inl ⟨_, _, _, HR.out, by rw [show s'.extract 0 k = bsB (s'.data.toList.take k) by rw [bsB_of, List.drop_zero], show s'.extract k s'.size = bsB (s'.data.toList.drop k) by rw [bsB_of, List.take_of_length_le (by rw [HSZ.out]; exact Nat.le_refl _)]]; rfl⟩⟩
                    · have d2 : decide ((s'.size : Int) - k ≤ 2) = false := decide_eq_false (by omega)
                      have HR : Hid (partsP acc = none) := Lib.hid (by rw [HPP.out, HPT.out, if_neg (fun h => c2 (by have := h.2.2; rw [HSZ.out] at this; exact this))])
                      go_wp2
                      all_goals
                        go_quiet (fail)
                        go_wp2
                        (try simp only [Exit.inBlock, Exit.then])
                        refine bodyPost_ret (results_tmp4 rfl _ _ _) rfl ?_
                        exact ⟨belowN (Below.refl _ _) _, .inr ⟨HR.out, _, _, _, rfl⟩⟩
                  · have d1 : decide ((k : Int) ≤ 256) = false := decide_eq_false (by omega)
                    have HR : Hid (partsP acc = none) := Lib.hid (by rw [HPP.out, HPT.out, if_neg (fun h => c1 h.2.1)])
                    go_wp2
                    all_goals
                      go_quiet (fail)
                      go_wp2
                      (try simp only [Exit.inBlock, Exit.then])
                      refine bodyPost_ret (results_tmp4 rfl _ _ _) rfl ?_
                      exact ⟨belowN (Below.refl _ _) _, .inr ⟨HR.out, _, _, _, rfl⟩⟩
        · have hki : ¬ (k : Int) < s'.size := by omega
          have HT : Hid (s'.data.toList.takeWhile headB = s'.data.toList.take k) := Lib.hid (head_len HK.out (by rw [HSZ.out]; exact hk) (.inl (by rw [HSZ.out]; omega)))
          have HPT : Hid (partsT p s'.data.toList = if (s'.data.toList.drop k).all lowB = true ∧ k ≤ 256 ∧ s'.data.toList.length - k ≤ 2 then some (p, s'.data.toList.take k, s'.data.toList.drop k) else none) := Lib.hid (partsT_of HT.out (by rw [HSZ.out]; omega))
          clear HK HT
          go_wp2
          go_loop [8] (fun i => ∃ j : Nat, k + j ≤ s'.size ∧ i = .int .i64 (k + j : Nat) ∧ Hid (((s'.data.toList.drop k).take j).all lowB = true)) (fun i => s'.size - (intOf i).toNat)
          case atStart => exact ⟨0, by omega, by first | rfl | simp, Lib.hid rfl⟩
          case round =>
            obtain ⟨j, hj, rfl, HJ⟩ := hrel
            by_cases hlt2 : k + j < s'.size
            · exfalso; omega
            · have hki2 : ¬ ((k + j : Nat) : Int) < s'.size := by omega
              have HALL : Hid ((s'.data.toList.drop k).all lowB = true) := Lib.hid (by
                have := HJ.out
                rw [List.take_of_length_le (by rw [List.length_drop, HSZ.out]; omega)] at this
                exact this)
              clear HJ
              by_cases c1 : k ≤ 256
              · have d1 : decide ((k : Int) ≤ 256) = true := decide_eq_true (by omega)
                by_cases c2 : s'.size - k ≤ 2
                · have d2 : decide ((s'.size : Int) - k ≤ 2) = true := decide_eq_true (by omega)
                  have HR : Hid (partsP acc = some (p, s'.data.toList.take k, s'.data.toList.drop k)) := Lib.hid (by rw [HPP.out, HPT.out, if_pos ⟨HALL.out, c1, by rw [HSZ.out]; exact c2⟩])
                  go_wp2
                  all_goals
                    go_quiet (fail)
                    go_wp2
                    (try simp only [Exit.inBlock, Exit.then])
                    refine bodyPost_ret (results_tmp4 rfl _ _ _) rfl ?_
                    exact ⟨belowN (Below.refl _ _) _, .inl ⟨_, _, _, HR.out, by rw [show s'.extract 0 k = bsB (s'.data.toList.take k) by rw [bsB_of, List.drop_zero], show s'.extract k s'.size = bsB (s'.data.toList.drop k) by rw [bsB_of, List.take_of_length_le (by rw [HSZ.out]; exact Nat.le_refl _)]]; rfl⟩⟩
                · have d2 : decide ((s'.size : Int) - k ≤ 2) = false := decide_eq_false (by omega)
                  have HR : Hid (partsP acc = none) := Lib.hid (by rw [HPP.out, HPT.out, if_neg (fun h => c2 (by have := h.2.2; rw [HSZ.out] at this; exact this))])
                  go_wp2
                  all_goals
                    go_quiet (fail)
                    go_wp2
                    (try simp only [Exit.inBlock, Exit.then])
                    refine bodyPost_ret (results_tmp4 rfl _ _ _) rfl ?_
                    exact ⟨belowN (Below.refl _ _) _, .inr ⟨HR.out, _, _, _, rfl⟩⟩
              · have d1 : decide ((k : Int) ≤ 256) = false := decide_eq_false (by omega)
                have HR : Hid (partsP acc = none) := Lib.hid (by rw [HPP.out, HPT.out, if_neg (fun h => c1 h.2.1)])
                go_wp2
                all_goals
                  go_quiet (fail)
                  go_wp2
                  (try simp only [Exit.inBlock, Exit.then])
                  refine bodyPost_ret (results_tmp4 rfl _ _ _) rfl ?_
                  exact ⟨belowN (Below.refl _ _) _, .inr ⟨HR.out, _, _, _, rfl⟩⟩
    · have r0 : decide (60 ≤ (x.toNat : Int)) = false := decide_eq_false (by omega)
      have HPP : Hid (partsP acc = partsT 0 s.data.toList) := Lib.hid (by
        obtain ⟨t, e1, e2⟩ := HX.out
        rw [HACC.out, e1, partsP_cons, if_neg h60])
      clear HX h60
      go_enter Tryd.func53, Tryd.ntmps53
      go_wp2
      have hsz := hs
      have HSZ : Hid (s.data.toList.length = s.size) := Lib.hid (by simp)
      go_loop [7] (fun i => ∃ k : Nat, k ≤ s.size ∧ i = .int .i64 k ∧ Hid (headL (s.data.toList.take k) = true)) (fun i => s.size - (intOf i).toNat)
      case atStart => exact ⟨0, Nat.zero_le _, rfl, Lib.hid rfl⟩
      case round =>
        obtain ⟨k, hk, rfl, HK⟩ := hrel
        by_cases hlt : k < s.size
        · have hki : (k : Int) < s.size := by omega
          have hkl : k < s.data.toList.length := by rw [HSZ.out]; exact hlt
          obtain ⟨x, hx⟩ : ∃ x, s[k] = x := ⟨_, rfl⟩
          have HX : Hid (s.data.toList[k]'hkl = x) := Lib.hid (by rw [← hx]; rfl)
          by_cases hb : headB x = true
          · have HN := Lib.hid (headL_takeS s.data.toList k hkl HK.out (by rw [HX.out]; exact hb))
            have h1 : decide (48 ≤ (x.toNat : Int)) = true := by simp [headB] at hb; simp; omega
            have h2 : decide ((x.toNat : Int) ≤ 59) = true := by simp [headB] at hb; simp; omega
            clear hb HX HK
            go_wp2
            go_round
            case rel => exact ⟨k + 1, hlt, by go_num, HN⟩
            case measure => simp [intOf]; omega
          · have hb' : headB x = false := by simpa using hb
            have HT : Hid (s.data.toList.takeWhile headB = s.data.toList.take k) := Lib.hid (head_len HK.out (Nat.le_of_lt hkl) (.inr ⟨hkl, by rw [HX.out]; exact hb'⟩))
            have h12 : decide (48 ≤ (x.toNat : Int)) = false ∨ decide (48 ≤ (x.toNat : Int)) = true ∧ decide ((x.toNat : Int) ≤ 59) = false := by
              by_cases h : 48 ≤ (x.toNat : Int)
              · exact .inr ⟨decide_eq_true h, decide_eq_false (fun h2 => hb (by simp [headB]; omega))⟩
              · exact .inl (decide_eq_false h)
            clear hb hb' HX
            rcases h12 with h1 | ⟨h1, h2⟩
            all_goals
              have HPT : Hid (partsT 0 s.data.toList = if (s.data.toList.drop k).all lowB = true ∧ k ≤ 256 ∧ s.data.toList.length - k ≤ 2 then some (0, s.data.toList.take k, s.data.toList.drop k) else none) := Lib.hid (partsT_of HT.out (by rw [HSZ.out]; omega))
              clear HK HT
              go_wp2
              go_loop [8] (fun i => ∃ j : Nat, k + j ≤ s.size ∧ i = .int .i64 (k + j : Nat) ∧ Hid (((s.data.toList.drop k).take j).all lowB = true)) (fun i => s.size - (intOf i).toNat)
              case atStart => exact ⟨0, by omega, by first | rfl | simp, Lib.hid rfl⟩
              case round =>
                obtain ⟨j, hj, rfl, HJ⟩ := hrel
                by_cases hlt2 : k + j < s.size
                · have hki2 : ((k + j : Nat) : Int) < s.size := by omega
                  have hkl2 : k + j < s.data.toList.length := by rw [HSZ.out]; exact hlt2
                  obtain ⟨y, hy⟩ : ∃ y, s[k + j] = y := ⟨_, rfl⟩
                  have HY : Hid (s.data.toList[k + j]'hkl2 = y) := Lib.hid (by rw [← hy]; rfl)
                  obtain ⟨q, hq⟩ : ∃ q, q = k + j := ⟨_, rfl⟩
                  by_cases hb2 : lowB y = true
                  · have HN2 := Lib.hid (low_take s.data.toList k j hkl2 HJ.out (by rw [HY.out]; exact hb2))
                    have h5 : decide ((y.toNat : Int) > 47) = false := by have := of_decide_eq_true hb2; exact decide_eq_false (by omega)
                    clear hb2 HY HJ hq
                    go_wp2
                    go_round
                    case rel => exact ⟨j + 1, by omega, by go_num, HN2⟩
                    case measure => simp [intOf]; omega
                  · have hb3 : lowB y = false := by simpa using hb2
                    have HNO := Lib.hid (low_no s.data.toList k j hkl2 (by rw [HY.out]; exact hb3))
                    have h5 : decide ((y.toNat : Int) > 47) = true := by have := of_decide_eq_false hb3; exact decide_eq_true (by omega)
                    clear hb2 hb3 HY HJ hq
                    go_wp2
                    all_goals
                      (try simp only [Exit.inBlock, Exit.then])
                      refine bodyPost_ret (results_tmp4 rfl _ _ _) rfl ?_
                      exact ⟨Below.refl _ _, .inr ⟨by rw [HPP.out, HPT.out, HNO.out]; simp, _, _, _, rfl⟩⟩
                · have hki2 : ¬ ((k + j : Nat) : Int) < s.size := by omega
                  have HALL : Hid ((s.data.toList.drop k).all lowB = true) := Lib.hid (by
                    have := HJ.out
                    rw [List.take_of_length_le (by rw [List.length_drop, HSZ.out]; omega)] at this
                    exact this)
                  clear HJ
                  by_cases c1 : k ≤ 256
                  · have d1 : decide ((k : Int) ≤ 256) = true := decide_eq_true (by omega)
                    by_cases c2 : s.size - k ≤ 2
                    · have d2 : decide ((s.size : Int) - k ≤ 2) = true := decide_eq_true (by omega)
                      have HR : Hid (partsP acc = some (0, s.data.toList.take k, s.data.toList.drop k)) := Lib.hid (by rw [HPP.out, HPT.out, if_pos ⟨HALL.out, c1, by rw [HSZ.out]; exact c2⟩])
                      go_wp2
                      all_goals
                        go_quiet (fail)
                        go_wp2
                        (try simp only [Exit.inBlock, Exit.then])
                        refine bodyPost_ret (results_tmp4 rfl _ _ _) rfl ?_
                        exact ⟨belowN (Below.refl _ _) _, .inl ⟨_, _, _, HR.out, by rw [show s.extract 0 k = bsB (s.data.toList.take k) by rw [bsB_of, List.drop_zero], show s.extract k s.size = bsB (s.data.toList.drop k) by rw [bsB_of, List.take_of_length_le (by rw [HSZ.out]; exact Nat.le_refl _)]]; rfl⟩⟩
                    · have d2 : decide ((s.size : Int) - k ≤ 2) = false := decide_eq_false (by omega)
                      have HR : Hid (partsP acc = none) := Lib.hid (by rw [HPP.out, HPT.out, if_neg (fun h => c2 (by have := h.2.2; rw [HSZ.out] at this; exact this))])
                      go_wp2
                      all_goals
                        go_quiet (fail)
                        go_wp2
                        (try simp only [Exit.inBlock, Exit.then])
                        refine bodyPost_ret (results_tmp4 rfl _ _ _) rfl ?_
                        exact ⟨belowN (Below.refl _ _) _, .inr ⟨HR.out, _, _, _, rfl⟩⟩
                  · have d1 : decide ((k : Int) ≤ 256) = false := decide_eq_false (by omega)
                    have HR : Hid (partsP acc = none) := Lib.hid (by rw [HPP.out, HPT.out, if_neg (fun h => c1 h.2.1)])
                    go_wp2
                    all_goals
                      go_quiet (fail)
                      go_wp2
                      (try simp only [Exit.inBlock, Exit.then])
                      refine bodyPost_ret (results_tmp4 rfl _ _ _) rfl ?_
                      exact ⟨belowN (Below.refl _ _) _, .inr ⟨HR.out, _, _, _, rfl⟩⟩
        · have hki : ¬ (k : Int) < s.size := by omega
          have HT : Hid (s.data.toList.takeWhile headB = s.data.toList.take k) := Lib.hid (head_len HK.out (by rw [HSZ.out]; exact hk) (.inl (by rw [HSZ.out]; omega)))
          have HPT : Hid (partsT 0 s.data.toList = if (s.data.toList.drop k).all lowB = true ∧ k ≤ 256 ∧ s.data.toList.length - k ≤ 2 then some (0, s.data.toList.take k, s.data.toList.drop k) else none) := Lib.hid (partsT_of HT.out (by rw [HSZ.out]; omega))
          clear HK HT
          go_wp2
          go_loop [8] (fun i => ∃ j : Nat, k + j ≤ s.size ∧ i = .int .i64 (k + j : Nat) ∧ Hid (((s.data.toList.drop k).take j).all lowB = true)) (fun i => s.size - (intOf i).toNat)
          case atStart => exact ⟨0, by omega, by first | rfl | simp, Lib.hid rfl⟩
          case round =>
            obtain ⟨j, hj, rfl, HJ⟩ := hrel
            by_cases hlt2 : k + j < s.size
            · exfalso; omega
            · have hki2 : ¬ ((k + j : Nat) : Int) < s.size := by omega
              have HALL : Hid ((s.data.toList.drop k).all lowB = true) := Lib.hid (by
                have := HJ.out
                rw [List.take_of_length_le (by rw [List.length_drop, HSZ.out]; omega)] at this
                exact this)
              clear HJ
              by_cases c1 : k ≤ 256
              · have d1 : decide ((k : Int) ≤ 256) = true := decide_eq_true (by omega)
                by_cases c2 : s.size - k ≤ 2
                · have d2 : decide ((s.size : Int) - k ≤ 2) = true := decide_eq_true (by omega)
                  have HR : Hid (partsP acc = some (0, s.data.toList.take k, s.data.toList.drop k)) := Lib.hid (by rw [HPP.out, HPT.out, if_pos ⟨HALL.out, c1, by rw [HSZ.out]; exact c2⟩])
                  go_wp2
                  all_goals
                    go_quiet (fail)
                    go_wp2
                    (try simp only [Exit.inBlock, Exit.then])
                    refine bodyPost_ret (results_tmp4 rfl _ _ _) rfl ?_
                    exact ⟨belowN (Below.refl _ _) _, .inl ⟨_, _, _, HR.out, by rw [show s.extract 0 k = bsB (s.data.toList.take k) by rw [bsB_of, List.drop_zero], show s.extract k s.size = bsB (s.data.toList.drop k) by rw [bsB_of, List.take_of_length_le (by rw [HSZ.out]; exact Nat.le_refl _)]]; rfl⟩⟩
                · have d2 : decide ((s.size : Int) - k ≤ 2) = false := decide_eq_false (by omega)
                  have HR : Hid (partsP acc = none) := Lib.hid (by rw [HPP.out, HPT.out, if_neg (fun h => c2 (by have := h.2.2; rw [HSZ.out] at this; exact this))])
                  go_wp2
                  all_goals
                    go_quiet (fail)
                    go_wp2
                    (try simp only [Exit.inBlock, Exit.then])
                    refine bodyPost_ret (results_tmp4 rfl _ _ _) rfl ?_
                    exact ⟨belowN (Below.refl _ _) _, .inr ⟨HR.out, _, _, _, rfl⟩⟩
              · have d1 : decide ((k : Int) ≤ 256) = false := decide_eq_false (by omega)
                have HR : Hid (partsP acc = none) := Lib.hid (by rw [HPP.out, HPT.out, if_neg (fun h => c1 h.2.1)])
                go_wp2
                all_goals
                  go_quiet (fail)
                  go_wp2
                  (try simp only [Exit.inBlock, Exit.then])
                  refine bodyPost_ret (results_tmp4 rfl _ _ _) rfl ?_
                  exact ⟨belowN (Below.refl _ _) _, .inr ⟨HR.out, _, _, _, rfl⟩⟩
  · have HPP : Hid (partsP acc = partsT 0 s.data.toList) := Lib.hid (by
      have : s.data.toList = [] := List.length_eq_zero_iff.1 (by rw [HSZ0.out]; omega)
      rw [HACC.out, this]
      rfl)
    have h0i : ¬ (0 : Int) < s.size := by omega
    go_enter Tryd.func53, Tryd.ntmps53
    go_wp2
    have hsz := hs
    have HSZ : Hid (s.data.toList.length = s.size) := Lib.hid (by simp)
    go_loop [7] (fun i => ∃ k : Nat, k ≤ s.size ∧ i = .int .i64 k ∧ Hid (headL (s.data.toList.take k) = true)) (fun i => s.size - (intOf i).toNat)
    case atStart => exact ⟨0, Nat.zero_le _, rfl, Lib.hid rfl⟩
    case round =>
      obtain ⟨k, hk, rfl, HK⟩ := hrel
      by_cases hlt : k < s.size
      · exfalso; omega
      · have hki : ¬ (k : Int) < s.size := by omega
        have HT : Hid (s.data.toList.takeWhile headB = s.data.toList.take k) := Lib.hid (head_len HK.out (by rw [HSZ.out]; exact hk) (.inl (by rw [HSZ.out]; omega)))
        have HPT : Hid (partsT 0 s.data.toList = if (s.data.toList.drop k).all lowB = true ∧ k ≤ 256 ∧ s.data.toList.length - k ≤ 2 then some (0, s.data.toList.take k, s.data.toList.drop k) else none) := Lib.hid (partsT_of HT.out (by rw [HSZ.out]; omega))
        clear HK HT
        go_wp2
        go_loop [8] (fun i => ∃ j : Nat, k + j ≤ s.size ∧ i = .int .i64 (k + j : Nat) ∧ Hid (((s.data.toList.drop k).take j).all lowB = true)) (fun i => s.size - (intOf i).toNat)
        case atStart => exact ⟨0, by omega, by first | rfl | simp, Lib.hid rfl⟩
        case round =>
          obtain ⟨j, hj, rfl, HJ⟩ := hrel
          by_cases hlt2 : k + j < s.size
          · exfalso; omega
          · have hki2 : ¬ ((k + j : Nat) : Int) < s.size := by omega
            have HALL : Hid ((s.data.toList.drop k).all lowB = true) := Lib.hid (by
              have := HJ.out
              rw [List.take_of_length_le (by rw [List.length_drop, HSZ.out]; omega)] at this
              exact this)
            clear HJ
            by_cases c1 : k ≤ 256
            · have d1 : decide ((k : Int) ≤ 256) = true := decide_eq_true (by omega)
              by_cases c2 : s.size - k ≤ 2
              · have d2 : decide ((s.size : Int) - k ≤ 2) = true := decide_eq_true (by omega)
                have HR : Hid (partsP acc = some (0, s.data.toList.take k, s.data.toList.drop k)) := Lib.hid (by rw [HPP.out, HPT.out, if_pos ⟨HALL.out, c1, by rw [HSZ.out]; exact c2⟩])
                go_wp2
                all_goals
                  go_quiet (fail)
                  go_wp2
                  (try simp only [Exit.inBlock, Exit.then])
                  refine bodyPost_ret (results_tmp4 rfl _ _ _) rfl ?_
                  exact ⟨belowN (Below.refl _ _) _, .inl ⟨_, _, _, HR.out, by rw [show s.extract 0 k = bsB (s.data.toList.take k) by rw [bsB_of, List.drop_zero], show s.extract k s.size = bsB (s.data.toList.drop k) by rw [bsB_of, List.take_of_length_le (by rw [HSZ.out]; exact Nat.le_refl _)]]; rfl⟩⟩
              · have d2 : decide ((s.size : Int) - k ≤ 2) = false := decide_eq_false (by omega)
                have HR : Hid (partsP acc = none) := Lib.hid (by rw [HPP.out, HPT.out, if_neg (fun h => c2 (by have := h.2.2; rw [HSZ.out] at this; exact this))])
                go_wp2
                all_goals
                  go_quiet (fail)
                  go_wp2
                  (try simp only [Exit.inBlock, Exit.then])
                  refine bodyPost_ret (results_tmp4 rfl _ _ _) rfl ?_
                  exact ⟨belowN (Below.refl _ _) _, .inr ⟨HR.out, _, _, _, rfl⟩⟩
            · have d1 : decide ((k : Int) ≤ 256) = false := decide_eq_false (by omega)
              have HR : Hid (partsP acc = none) := Lib.hid (by rw [HPP.out, HPT.out, if_neg (fun h => c1 h.2.1)])
              go_wp2
              all_goals
                go_quiet (fail)
                go_wp2
                (try simp only [Exit.inBlock, Exit.then])
                refine bodyPost_ret (results_tmp4 rfl _ _ _) rfl ?_
                exact ⟨belowN (Below.refl _ _) _, .inr ⟨HR.out, _, _, _, rfl⟩⟩

end Go.Proofs.YtmmkcfjncpcabaaDoor

namespace Go.Proofs.YtmmkcfjncpcabaaDoor
open Go.RowKit

theorem conv_bs {W : World} {B n c : Nat} {A : Option Addr} {zs : List Nat} (h : BS W B A zs) (hn : n = zs.length) : (Go.convert 22 9 (.slice A n c)).run Tryd.prog W = .ok (.string (bsB (u8s zs))) W := by
  subst hn
  by_cases hz : zs = []
  · subst hz
    rw [List.length_nil, run_convert_bytes_string W _ _ 5 A 0 c (by kernel_rfl) (by kernel_rfl) (by kernel_rfl)]
    cases A <;> rfl
  · obtain ⟨b, off, rfl, _, hc⟩ := h.2 hz
    have hl : zs.length = (u8s zs).length := by simp [u8s]
    rw [hl]
    exact run_convert_bytes_back (P := Tryd.prog) W 22 9 5 ⟨b, off, none⟩ c (u8s zs) (by kernel_rfl) (by kernel_rfl) (by kernel_rfl) (fun j hj => by
      have hj' : j < zs.length := by rw [hl]; exact hj
      have ea : (⟨b, off, none⟩ : Addr).add j = ⟨b, off + j, none⟩ := by
        unfold Addr.add
        split <;> simp_all
      have hz8 : zs[j] < 256 := h.1 _ (List.getElem_mem hj')
      rw [ea, hc j hj', List.getElem?_eq_getElem hj']
      simp [u8s]
      omega)
theorem u8s_cat (a b : List Nat) : u8s (a ++ b) = u8s a ++ u8s b := by simp [u8s]
theorem BS.nilK {w : World} {B : Nat} (A : Option Addr) : BS w B A [] := ⟨fun z hz => (by cases hz), fun h => absurd rfl h⟩
theorem BS.sliceK {w : World} {B : Nat} {B0 : Option Addr} {zs : List Nat} {o r t cr n : Nat} (h : BS w B B0 (zs.drop o)) (hn : n = zs.length) (hor : o + r = n) (hr : r ≤ cr) : BS w B (if cr = t then B0 else Option.map (fun x => x.add t) B0) (zs.drop (o + t)) := by
  by_cases hd : zs.drop (o + t) = []
  · rw [hd]; exact BS.nilK _
  · have hlt : o + t < zs.length := by
      rcases Nat.lt_or_ge (o + t) zs.length with h1 | h1
      · exact h1
      · exact absurd (List.drop_of_length_le h1) hd
    have hne : zs.drop o ≠ [] := fun e => by
      have := congrArg List.length e
      rw [List.length_drop, List.length_nil] at this
      omega
    obtain ⟨b, off, rfl, hb, hc⟩ := h.2 hne
    rw [if_neg (by omega), Option.map_some, show (⟨b, off, none⟩ : Addr).add t = ⟨b, off + t, none⟩ by unfold Addr.add; split <;> simp_all, ← List.drop_drop]
    exact BS.drop h t (off + t) (fun _ => rfl)
theorem BS.piece {W : World} {B : Nat} {A : Option Addr} {zs : List Nat} (h : BS W B A zs) (a k c : Nat) (_ : a ≤ zs.length) (hc : zs.length ≤ c) : BS W B (if c = a then A else Option.map (fun x => x.add a) A) ((zs.drop a).take k) := by
  have h1 := BS.sliceK (o := 0) (r := zs.length) (t := a) (cr := c) (n := zs.length) (by rw [List.drop_zero]; exact h) rfl (by omega) hc
  rw [Nat.zero_add] at h1
  exact h1.take k
theorem RM.byteAt {W : World} {E : Nat} {b off : Nat} {c : Nat} {zs : List Nat} {m : Nat} {es : List PE} {st : Int} {hd : Nat} (h : RM W E (some ⟨b, off, none⟩) c zs m es st hd) (k : Nat) (hk : k < zs.length) : W.cell? ⟨b, off + k, none⟩ = some (.int .u8 (zs[k]?.getD 0)) := by
  obtain ⟨b', off', e, hc, _⟩ := h.byte k hk
  injection e with e
  injection e with e1 e2 _
  subst e1; subst e2
  exact hc
theorem pay_run (m : Nat) (acc : List UInt8) (last : Int) (pay : List UInt8) (z : Nat) (xs : List Nat) (h : stopB z = false) : payR m acc last pay (z :: xs) = RX.be [] 1 (payR m acc last (pay ++ [UInt8.ofNat z]) xs) := by
  conv => lhs; unfold payR
  rw [if_neg (by rw [h]; simp), up_be]
theorem parse_h (h : List UInt8) (W : World) (h1 : headL h = true) (h2 : h.length ≤ 256) : Calls Tryd.prog 54 #[.string (bsB h)] W fun e w' => ∃ A c, e = .returned (.tuple #[.slice A (HZ h).length c, .bool true]) ∧ RGt w' A (HZ h) ∧ Below W.heap.size W w' := by
  refine (refParse_tag (bsB h) W (by rw [bsB_size]; omega)).mono fun e w' hp => ?_
  have e1 : (bsB h).data.toList = h := by simp [bsB]
  rw [e1] at hp
  rcases hp with ⟨h3, _⟩ | ⟨_, hp⟩
  · rw [h1] at h3; cases h3
  · exact hp
set_option maxRecDepth 100000 in
set_option maxHeartbeats 8000000 in
theorem payload_any (w : World) (E : Nat) (A : Option Addr) (c : Nat) (zs : List Nat) (m : Nat) (es : List PE) (at0 : Nat) (acc : List UInt8) (last : Nat) (h : RM w E A c zs m es 0 0) (hc : zs.length ≤ c) (hat : at0 ≤ zs.length) (hz : zs.length ≤ 1000) (hn : es.length ≤ 50000) (hacc : acc.length ≤ 1000) :
    Calls Tryd.prog 52 #[.pointer (some ⟨E, 0, none⟩), .int .i64 at0, .string (bsB acc), .int .u8 last] w (RQ E A c zs m es at0 (payR m acc last [] (zs.drop at0)) w) := by
  obtain ⟨R, hR⟩ : ∃ R, R = payR m acc last [] (zs.drop at0) := ⟨_, rfl⟩
  have HR : Hid (R = RX.be [] 0 (payR m acc last (u8s ((zs.drop at0).take 0)) (zs.drop (at0 + 0)))) := Lib.hid (by rw [be_nil]; exact hR)
  rw [← hR]
  clear hR
  have HI := Lib.hid h
  clear h
  obtain ⟨n, hnz⟩ : ∃ n, n = zs.length := ⟨_, rfl⟩
  have HNZ := Lib.hid hnz
  rw [← hnz] at hc hat hz
  clear hnz
  have HST : Hid (∀ W z, Calls Tryd.prog 37 #[.int .u8 (z : Nat)] W fun e w' => e = .returned (.bool (stopB z)) ∧ W = w') := Lib.hid fun W z => stops_any z W
  have HC : Hid (∀ W T, RM W E A c zs m es 0 0 → Calls Tryd.prog 55 #[.pointer (some ⟨E, 0, none⟩), .string (bsB T)] W fun e w' => e = .returned (.tuple #[.string (bsB (T.take m)), .bool (decide (m < T.length))]) ∧ W = w') := Lib.hid fun W T hm => cut_any W E A c zs m es 0 0 T hm
  have HPA : Hid (∀ W, Calls Tryd.prog 53 #[.string (bsB acc)] W (PartsPost acc W)) := Lib.hid fun W => by
    have := parts_any (bsB acc) W (by rw [bsB_size]; exact hacc)
    rw [show (bsB acc).data.toList = acc by simp [bsB]] at this
    exact this
  have HPH : Hid (∀ W h, headL h = true → h.length ≤ 256 → Calls Tryd.prog 54 #[.string (bsB h)] W fun e w' => ∃ A c, e = .returned (.tuple #[.slice A (HZ h).length c, .bool true]) ∧ RGt w' A (HZ h) ∧ Below W.heap.size W w') := Lib.hid fun W h h1 h2 => parse_h h W h1 h2
  have HAD : Hid (∀ W (p : Int) (h i pay : List UInt8) A5 c5, partsP acc = some (p, h, i) → RM W E A c zs m es 0 0 → RGt W A5 (HZ h) → Calls Tryd.prog 26 #[.pointer (some ⟨E, 0, none⟩), .agg #[.int .i64 5, .int .i32 0, .int .u8 last, .int .u8 p, .slice A5 (HZ h).length c5, .string (bsB i), .string (bsB (pay.take m)), .bool (decide (m < pay.length))]] W fun en w' => en = .returned (.tuple #[]) ∧ RO E A c zs m (es ++ dcsE' m acc last pay) 0 0 W w') := Lib.hid fun W p h i pay A5 c5 hp hM hg => by
    have e : dcsE' m acc last pay = [⟨5, 0, last, p, HZ h, bsB i, bsB (pay.take m), decide (m < pay.length)⟩] := by
      unfold dcsE'
      rw [hp]
    rw [e]
    exact add_any W E A c zs m es 0 0 ⟨5, 0, last, p, .slice A5 (HZ h).length c5, bsB i, bsB (pay.take m), decide (m < pay.length)⟩ _ hM ⟨rfl, rfl, rfl, rfl, rfl, rfl, rfl, A5, c5, rfl, hg⟩ (by omega)
  go_enter Tryd.func52, Tryd.ntmps52
  go_wp2
  go_loopw [1] (fun i wr => ∃ (k : Nat), at0 + k ≤ n ∧ i = .int .i64 (at0 + k : Nat) ∧ wr = w ∧ Hid (R = RX.be [] k (payR m acc last (u8s ((zs.drop at0).take k)) (zs.drop (at0 + k))))) (fun i _ => n - (intOf i).toNat)
  case atStart => exact ⟨0, by omega, rfl, rfl, HR⟩
  case round =>
    obtain ⟨k, hk, rfl, rfl, HK⟩ := hrel
    have hc3 := HI.out.c3
    rw [← HNZ.out] at hc3
    by_cases hlt : at0 + k < n
    · obtain ⟨b, off, hA, hb, hb8⟩ := HI.out.byte (at0 + k) (by rw [← HNZ.out]; exact hlt)
      have hlti : ((at0 + k : Nat) : Int) < n := by omega
      have HD : Hid (R = RX.be [] k (payR m acc last (u8s ((zs.drop at0).take k)) (zs[at0 + k]?.getD 0 :: zs.drop (at0 + k + 1)))) := Lib.hid (by rw [HK.out, drop_at zs (at0 + k) (by rw [← HNZ.out]; exact hlt)])
      have HTK : Hid (u8s ((zs.drop at0).take (k + 1)) = u8s ((zs.drop at0).take k) ++ [UInt8.ofNat (zs[at0 + k]?.getD 0)]) := Lib.hid (by
        have hd : k < (zs.drop at0).length := by rw [List.length_drop, ← HNZ.out]; omega
        rw [List.take_succ_eq_append_getElem hd, u8s_cat, List.getElem_drop, List.getElem?_eq_getElem (by rw [← HNZ.out]; exact hlt)]
        rfl)
      subst hA
      have HBY : Hid (∀ W es, RM W E (some ⟨b, off, none⟩) c zs m es 0 0 → W.cell? ⟨b, off + (at0 + k), none⟩ = some (.int .u8 (zs[at0 + k]?.getD 0))) := Lib.hid fun W es h => h.byteAt (at0 + k) (by rw [← HNZ.out]; exact hlt)
      generalize zs[at0 + k]?.getD 0 = z at *
      clear HK HR
      obtain ⟨p, hp⟩ : ∃ p, p = at0 + k := ⟨_, rfl⟩
      have hoff : off + (at0 + k) = off + p := by rw [hp]
      rw [hoff] at hb HBY
      rw [← hp] at hlti hk hlt HD
      rw [← hp]
      have HP := Lib.hid hp
      clear hoff hp
      cases hsb : stopB z with
      | false =>
        have HS1 := HST.out wr z
        rw [hsb] at HS1
        have HK2 : Hid (R = RX.be [] (k + 1) (payR m acc last (u8s ((zs.drop at0).take (k + 1))) (zs.drop (at0 + (k + 1))))) := Lib.hid (by
          rw [HD.out, pay_run _ _ _ _ _ _ hsb, be_be, HTK.out, HP.out]
          rfl)
        clear HTK HD hsb
        go_wp2_with (first
          | (go_at_call 37; (with_reducible refine HS1.mono ?_); rintro e w2 ⟨rfl, rfl⟩))
        have hp := HP.out
        exact ⟨⟨k + 1, by omega, by rw [hp]; go_num, trivial, HK2⟩, by simp [intOf]; omega⟩
      | true =>
        have HS1 := HST.out wr z
        rw [hsb] at HS1
        have HCV : Hid (∀ W, RM W E (some ⟨b, off, none⟩) c zs m es 0 0 → (Go.convert 22 9 (.slice (some ⟨b, off + at0, none⟩) (p - at0) (c - at0))).run Tryd.prog W = .ok (.string (bsB (u8s ((zs.drop at0).take k)))) W) := Lib.hid fun W hM => conv_bs ((hM.bs.drop at0 (off + at0) (fun _ => rfl)).take k) (by rw [List.length_take, List.length_drop]; have := HP.out; have := HNZ.out; omega)
        have hR1 : R = ⟨if z = 27 then dcsE' m acc last (u8s ((zs.drop at0).take k)) else [], 0, 0, k⟩ := by
          rw [HD.out]
          conv => lhs; unfold payR
          rw [if_pos hsb]
          rfl
        have hna : ¬ c = at0 := by have := HP.out; omega
        have hpa : at0 ≤ p := by have := HP.out; omega
        have hpn : ((p : Int) == n) = false := by simp; omega
        have HR1 := Lib.hid hR1
        clear hR1 HTK HD
        generalize hpay : u8s ((zs.drop at0).take k) = pay at *
        clear hpay
        by_cases h27 : z = 27
        · rw [if_pos h27] at HR1
          have z27 : ((z : Int) == 27) = true := by simp; omega
          clear h27
          go_wp2_with (first
            | (go_at_call 37; (with_reducible refine HS1.mono ?_); rintro e w2 ⟨rfl, rfl⟩)
            | (go_at_call 53; (with_reducible refine (HPA.out _).mono ?_); rintro e w3 ⟨hb3, ⟨p3, h3, i3, hp3, rfl⟩ | ⟨hp3, p3, S1, S2, rfl⟩⟩ <;> (have HM3 := Lib.hid (HI.out.past hb3); have c33 := HM3.out.c3; have b33 := HBY.out w3 _ HM3.out; have hcv3 := HCV.out w3 HM3.out; have HP3 := Lib.hid hp3; have HB3 := Lib.hid hb3; rw [← HNZ.out] at c33; clear hp3 hb3))
            | (go_at_call 55; (with_reducible refine (HC.out w3 pay HM3.out).mono ?_); rintro e w4 ⟨rfl, rfl⟩)
            | (go_at_call 54; (with_reducible refine (HPH.out w3 h3 (partsP_some HP3.out).1 (partsP_some HP3.out).2.1).mono ?_); rintro e w5 ⟨A5, c5, rfl, hg5, hb5⟩; have HM5 := Lib.hid (HM3.out.past hb5); have HG5 := Lib.hid hg5; have HB5 := Lib.hid hb5; clear hg5 hb5)
            | (go_at_call 26; (with_reducible refine (HAD.out w5 p3 h3 i3 pay A5 c5 HP3.out HM5.out HG5.out).mono ?_); rintro e w6 ⟨rfl, hr6⟩; have HR6 := Lib.hid hr6; clear hr6))
          · go_ret
            refine ⟨by rw [HR1.out, HP.out]; rfl, by rw [HR1.out]; exact HR6.out.1, ?_⟩
            have hlt0 := HI.out.lt
            exact (HB3.out.mono (Nat.le_of_lt hlt0)).trans ((HB5.out.mono (Nat.le_of_lt HM3.out.lt)).trans HR6.out.2)
          · go_ret
            refine ⟨by rw [HR1.out, HP.out]; rfl, ?_, HB3.out.mono (Nat.le_of_lt HI.out.lt)⟩
            rw [HR1.out]
            unfold dcsE'
            rw [HP3.out]
            simp only [List.append_nil]
            exact HM3.out
        · rw [if_neg h27] at HR1
          have z27 : ((z : Int) == 27) = false := by simp; omega
          clear h27
          go_wp2_with (first
            | (go_at_call 37; (with_reducible refine HS1.mono ?_); rintro e w2 ⟨rfl, rfl⟩)
            | (go_at_call 53; (with_reducible refine (HPA.out _).mono ?_); rintro e w3 ⟨hb3, ⟨p3, h3, i3, hp3, rfl⟩ | ⟨hp3, p3, S1, S2, rfl⟩⟩ <;> (have HM3 := Lib.hid (HI.out.past hb3); have c33 := HM3.out.c3; have b33 := HBY.out w3 _ HM3.out; have hcv3 := HCV.out w3 HM3.out; have HP3 := Lib.hid hp3; have HB3 := Lib.hid hb3; rw [← HNZ.out] at c33; clear hp3 hb3))
            | (go_at_call 55; (with_reducible refine (HC.out w3 pay HM3.out).mono ?_); rintro e w4 ⟨rfl, rfl⟩))
          all_goals
            go_ret
            refine ⟨by rw [HR1.out, HP.out]; rfl, ?_, HB3.out.mono (Nat.le_of_lt HI.out.lt)⟩
            rw [HR1.out]
            simp only [List.append_nil]
            exact HM3.out
    · have hkn : at0 + k = n := by omega
      have hlti : ¬ ((at0 + k : Nat) : Int) < n := by omega
      have hR1 : R = ⟨[], 3, heldD m acc (u8s ((zs.drop at0).take k)), k⟩ := by
        have e0 : zs.drop (at0 + k) = [] := List.drop_of_length_le (by rw [← HNZ.out]; omega)
        rw [HK.out, e0]
        unfold payR
        rfl
      have hpl : (u8s ((zs.drop at0).take k)).length ≤ 1000 := by
        rw [u8s, List.length_map, List.length_take, List.length_drop, ← HNZ.out]
        omega
      have HKN := Lib.hid hkn
      have HCV : Hid (∀ W, RM W E A c zs m es 0 0 → (Go.convert 22 9 (.slice (if c = at0 then A else Option.map (fun x => x.add at0) A) (n - at0) (c - at0))).run Tryd.prog W = .ok (.string (bsB (u8s ((zs.drop at0).take k)))) W) := Lib.hid fun W hM => conv_bs (hM.bs.piece at0 k c (by rw [← HNZ.out]; exact hat) (by rw [← HNZ.out]; exact hc)) (by rw [List.length_take, List.length_drop]; have := HNZ.out; omega)
      have HR1 := Lib.hid hR1
      clear hR1 HK HR hlt
      rw [hkn] at hlti
      rw [hkn]
      generalize u8s ((zs.drop at0).take k) = pay at *
      have HQ : Hid (∀ W, Below wr.heap.size wr W → partsP acc = none → RM W E A c zs m es 0 0 → RQ E A c zs m es at0 R wr (.returned (.int .i64 n)) (W.setCell ⟨E, 1, none⟩ (.int .i64 3))) := Lib.hid fun W hW hp hM => by
        obtain ⟨q1, q2⟩ := hM.setSt 3
        have e : R = ⟨[], 3, 0, k⟩ := by
          rw [HR1.out]
          unfold heldD
          rw [hp]
        rw [e]
        exact ⟨by rw [← HKN.out], by rw [List.append_nil]; exact q1, (hW.mono (Nat.le_of_lt HI.out.lt)).trans q2⟩
      have HQ2 : Hid (∀ W p h i, Below wr.heap.size wr W → partsP acc = some (p, h, i) → RM W E A c zs m es 0 0 → RQ E A c zs m es at0 R wr (.returned (.int .i64 n)) ((W.setCell ⟨E, 1, none⟩ (.int .i64 3)).setCell ⟨E, 2, none⟩ (.int .i64 ((((bsB h).size : Int) + (bsB i).size) + (bsB (pay.take m)).size)))) := Lib.hid fun W p h i hW hp hM => by
        obtain ⟨q1, q2⟩ := hM.setSt 3
        obtain ⟨q3, q4⟩ := q1.setHd (h.length + i.length + min pay.length m)
        have e : R = ⟨[], 3, h.length + i.length + min pay.length m, k⟩ := by
          rw [HR1.out]
          unfold heldD
          rw [hp]
        have e2 : ((((bsB h).size : Int) + (bsB i).size) + (bsB (pay.take m)).size) = ((h.length + i.length + min pay.length m : Nat) : Int) := by
          rw [bsB_size, bsB_size, bsB_size, List.length_take, Nat.min_comm]
          push_cast
          rfl
        rw [e, e2]
        exact ⟨by rw [← HKN.out], by rw [List.append_nil]; exact q3, (hW.mono (Nat.le_of_lt HI.out.lt)).trans (q2.trans q4)⟩
      have hts : (bsB (pay.take m)).size ≤ 1000 := by rw [bsB_size, List.length_take]; omega
      have hnn : ((n : Int) == n) = true := by simp
      by_cases hca : c = at0
      · have hnz2 : n - at0 = 0 := by omega
        rw [if_pos hca, hca, Nat.sub_self, hnz2] at HCV
        subst hca
        clear hnz2
        go_wp2_with (first
          | (go_at_call 53; (with_reducible refine (HPA.out _).mono ?_); rintro e w3 ⟨hb3, ⟨p3, h3, i3, hp3, rfl⟩ | ⟨hp3, p3, S1, S2, rfl⟩⟩ <;> (have HM3 := Lib.hid (HI.out.past hb3); have c33 := HM3.out.c3; have hcv3 := HCV.out w3 HM3.out; have k1 := HM3.out.c1; have k2 := HM3.out.c2; have f1 := HM3.out.free 1; have f2 := HM3.out.free 2; have HP3 := Lib.hid hp3; (try (have z1 : (bsB h3).size ≤ 256 := (by rw [bsB_size]; exact (partsP_some hp3).2.1))); (try (have z2 : (bsB i3).size ≤ 2 := (by rw [bsB_size]; exact (partsP_some hp3).2.2.1))); have HB3 := Lib.hid hb3; rw [← HNZ.out] at c33; clear hp3 hb3))
          | (go_at_call 55; (with_reducible refine (HC.out w3 pay HM3.out).mono ?_); rintro e w4 ⟨rfl, rfl⟩))
        all_goals
          go_ret
          first
            | exact HQ2.out _ _ _ _ HB3.out HP3.out HM3.out
            | exact HQ.out _ HB3.out HP3.out HM3.out
      · rw [if_neg hca] at HCV
        go_wp2_with (first
          | (go_at_call 53; (with_reducible refine (HPA.out _).mono ?_); rintro e w3 ⟨hb3, ⟨p3, h3, i3, hp3, rfl⟩ | ⟨hp3, p3, S1, S2, rfl⟩⟩ <;> (have HM3 := Lib.hid (HI.out.past hb3); have c33 := HM3.out.c3; have hcv3 := HCV.out w3 HM3.out; have k1 := HM3.out.c1; have k2 := HM3.out.c2; have f1 := HM3.out.free 1; have f2 := HM3.out.free 2; have HP3 := Lib.hid hp3; (try (have z1 : (bsB h3).size ≤ 256 := (by rw [bsB_size]; exact (partsP_some hp3).2.1))); (try (have z2 : (bsB i3).size ≤ 2 := (by rw [bsB_size]; exact (partsP_some hp3).2.2.1))); have HB3 := Lib.hid hb3; rw [← HNZ.out] at c33; clear hp3 hb3))
          | (go_at_call 55; (with_reducible refine (HC.out w3 pay HM3.out).mono ?_); rintro e w4 ⟨rfl, rfl⟩))
        all_goals
          go_ret
          first
            | exact HQ2.out _ _ _ _ HB3.out HP3.out HM3.out
            | exact HQ.out _ HB3.out HP3.out HM3.out

end Go.Proofs.YtmmkcfjncpcabaaDoor

namespace Go.Proofs.YtmmkcfjncpcabaaDoor
open Go.RowKit

theorem exec_ok (w : World) (z : Int) : EOK w (execE z) (execP z) := ⟨rfl, rfl, rfl, rfl, rfl, rfl, rfl, none, 0, rfl, rg_nil w⟩
set_option maxRecDepth 100000 in
set_option maxHeartbeats 16000000 in
theorem sequence_f (w : World) (E : Nat) (A : Option Addr) (c : Nat) (zs : List Nat) (m : Nat) (es : List PE) (at0 : Nat) (h : RM w E A c zs m es 0 0) (hc : zs.length ≤ c) (hat : at0 ≤ zs.length) (hz : zs.length ≤ 1000) (hn : es.length ≤ 40000) :
    Calls Tryd.prog 40 #[.pointer (some ⟨E, 0, none⟩), .int .i64 at0, .bool false] w (RQ E A c zs m es at0 (seqR m false [] (zs.drop at0)) w) := by
  obtain ⟨R, hR⟩ : ∃ R, R = seqR m false [] (zs.drop at0) := ⟨_, rfl⟩
  have HR : Hid (R = RX.be [] 0 (seqR m false [] (zs.drop at0))) := Lib.hid (by rw [be_nil]; exact hR)
  rw [← hR]
  clear hR
  have HI : Hid (RM w E A c zs m (es ++ []) 0 0) := Lib.hid (by rw [List.append_nil]; exact h)
  clear h
  obtain ⟨n, hnz⟩ : ∃ n, n = zs.length := ⟨_, rfl⟩
  have HNZ := Lib.hid hnz
  have HCC := Lib.hid hc
  have HZZ := Lib.hid hz
  rw [← hnz] at hc hat hz
  clear hnz
  have HST : Hid (∀ W z, Calls Tryd.prog 37 #[.int .u8 (z : Nat)] W fun e w' => e = .returned (.bool (stopB z)) ∧ W = w') := Lib.hid fun W z => stops_any z W
  have HPA : Hid (∀ W T, T.length ≤ 1000 → Calls Tryd.prog 53 #[.string (bsB T)] W (PartsPost T W)) := Lib.hid fun W T hT => by
    have := parts_any (bsB T) W (by rw [bsB_size]; exact hT)
    rw [show (bsB T).data.toList = T by simp [bsB]] at this
    exact this
  have HPH : Hid (∀ W h, headL h = true → h.length ≤ 256 → Calls Tryd.prog 54 #[.string (bsB h)] W fun e w' => ∃ A c, e = .returned (.tuple #[.slice A (HZ h).length c, .bool true]) ∧ RGt w' A (HZ h) ∧ Below W.heap.size W w') := Lib.hid fun W h h1 h2 => parse_h h W h1 h2
  have HAD : Hid (∀ W (z : Nat) (T : List UInt8) (l : List PE) (p : Int) (h i : List UInt8) A5 c5, l.length ≤ 1000 → partsP T = some (p, h, i) → RM W E A c zs m (es ++ l) 0 0 → RGt W A5 (HZ h) → Calls Tryd.prog 26 #[.pointer (some ⟨E, 0, none⟩), .agg #[.int .i64 3, .int .i32 0, .int .u8 z, .int .u8 p, .slice A5 (HZ h).length c5, .string (bsB i), .string ⟨#[]⟩, .bool false]] W fun en w' => en = .returned (.tuple #[]) ∧ RO E A c zs m ((es ++ l) ++ csiE' T z) 0 0 W w') := Lib.hid fun W z T l p h i A5 c5 hl hp hM hg => by
    have e : csiE' T z = [⟨3, 0, z, p, HZ h, bsB i, ⟨#[]⟩, false⟩] := by
      unfold csiE'
      rw [hp]
    rw [e]
    exact add_any W E A c zs m (es ++ l) 0 0 ⟨3, 0, z, p, .slice A5 (HZ h).length c5, bsB i, ⟨#[]⟩, false⟩ _ hM ⟨rfl, rfl, rfl, rfl, rfl, rfl, rfl, A5, c5, rfl, hg⟩ (by rw [List.length_append]; omega)
  have HEX : Hid (∀ W (z : Nat) (l : List PE), l.length ≤ 1000 → RM W E A c zs m (es ++ l) 0 0 → Calls Tryd.prog 26 #[.pointer (some ⟨E, 0, none⟩), .agg #[.int .i64 1, .int .i32 0, .int .u8 z, .int .u8 0, .slice none 0 0, .string ⟨#[]⟩, .string ⟨#[]⟩, .bool false]] W fun en w' => en = .returned (.tuple #[]) ∧ RO E A c zs m (es ++ (l ++ [execP z])) 0 0 W w') := Lib.hid fun W z l hl hM => by
    rw [← List.append_assoc]
    exact add_any W E A c zs m (es ++ l) 0 0 (execE z) _ hM (exec_ok W z) (by rw [List.length_append]; omega)
  have HPY : Hid (∀ W (z : Nat) (T : List UInt8) (l : List PE) (q : Int) (p : Nat), q = (p : Nat) → p ≤ n → T.length ≤ 1000 → l.length ≤ 1000 → RM W E A c zs m (es ++ l) 0 0 → Calls Tryd.prog 52 #[.pointer (some ⟨E, 0, none⟩), .int .i64 q, .string (bsB T), .int .u8 z] W (RQ E A c zs m (es ++ l) p (payR m T z [] (zs.drop p)) W)) := Lib.hid fun W z T l q p hq hp hT hl hM => by
    rw [hq]
    exact payload_any W E A c zs m (es ++ l) p T z hM HCC.out (by rw [← HNZ.out]; exact hp) HZZ.out (by rw [List.length_append]; omega) hT
  go_enter Tryd.func40, Tryd.ntmps40
  go_wp2
  go_loopw [1, 7] (fun i s wr => ∃ (k : Nat) (T : List UInt8) (S : ByteArray) (l : List PE), at0 + k ≤ n ∧ i = .int .i64 (at0 + k : Nat) ∧ s = .string S ∧ T.length ≤ k ∧ l.length ≤ k ∧ Hid (S = bsB T) ∧ Hid (R = RX.be l k (seqR m false T (zs.drop (at0 + k)))) ∧ Hid (RM wr E A c zs m (es ++ l) 0 0) ∧ Hid (Below E w wr)) (fun i _ _ => n - (intOf i).toNat)
  case atStart => exact ⟨0, [], _, [], by omega, rfl, rfl, Nat.le_refl _, Nat.le_refl _, Lib.hid rfl, HR, HI, Lib.hid (Below.refl _ _)⟩
  case round =>
    obtain ⟨k, T, S, l, hk, rfl, rfl, hT, hl, HS, HK, HM, HB⟩ := hrel
    have hc3 := HM.out.c3
    rw [← HNZ.out] at hc3
    by_cases hlt : at0 + k < n
    · obtain ⟨b, off, hA, hb, hb8⟩ := HM.out.byte (at0 + k) (by rw [← HNZ.out]; exact hlt)
      subst hA
      have hlti : ((at0 + k : Nat) : Int) < n := by omega
      have HD : Hid (R = RX.be l k (seqR m false T (zs[at0 + k]?.getD 0 :: zs.drop (at0 + k + 1)))) := Lib.hid (by rw [HK.out, drop_at zs (at0 + k) (by rw [← HNZ.out]; exact hlt)])
      generalize zs[at0 + k]?.getD 0 = z at *
      clear HK HR
      obtain ⟨p, hp⟩ : ∃ p, p = at0 + k := ⟨_, rfl⟩
      have hoff : off + (at0 + k) = off + p := by rw [hp]
      rw [hoff] at hb
      rw [← hp] at hlti hk hlt HD
      rw [← hp]
      have HP := Lib.hid hp
      clear hoff hp
      have hl1 : l.length ≤ 1000 := by have := HP.out; omega
      have hT1 : T.length ≤ 1000 := by have := HP.out; omega
      by_cases z1 : 128 ≤ z ∨ stopB z = true
      · have HQ : Hid (RQ E (some ⟨b, off, none⟩) c zs m es at0 R w (.returned (.int .i64 p)) wr) := Lib.hid (by
          have e : R = ⟨l, 0, 0, k⟩ := by
            rw [HD.out]
            conv => lhs; unfold seqR
            rw [if_pos z1]
            unfold RX.be
            rw [List.append_nil]
            rfl
          rw [e]
          exact ⟨by rw [HP.out], HM.out, HB.out⟩)
        by_cases z2 : 128 ≤ z
        · have d1 : decide (128 ≤ (z : Int)) = true := decide_eq_true (by omega)
          clear z1 z2
          go_wp2
          go_ret
          exact HQ.out
        · have d1 : decide (128 ≤ (z : Int)) = false := decide_eq_false (by omega)
          have HS1 := HST.out wr z
          rw [z1.resolve_left z2] at HS1
          clear z1 z2
          go_wp2_with (go_at_call 37; (with_reducible refine HS1.mono ?_); rintro e w2 ⟨rfl, rfl⟩)
          go_ret
          exact HQ.out
      have d1 : decide (128 ≤ (z : Int)) = false := decide_eq_false (by omega)
      have HS1 := HST.out wr z
      rw [show stopB z = false by cases hq : stopB z with | false => rfl | true => exact absurd (.inr hq) z1] at HS1
      by_cases z2 : z = 127 ∨ z < 32 ∧ false = true
      · have HK2 : Hid (R = RX.be l (k + 1) (seqR m false T (zs.drop (at0 + (k + 1))))) := Lib.hid (by
          rw [HD.out]
          conv => lhs; unfold seqR
          rw [if_neg z1, if_pos z2, up_be, be_be, List.append_nil, HP.out]
          rfl)
        have d4 : decide ((z : Int) < 32) = false := decide_eq_false (z2.elim (fun h => by omega) (fun h => by cases h.2))
        have d3 : ((z : Int) == 127) = true := z2.elim (fun h => by simp; omega) (fun h => by cases h.2)
        clear z1 z2
        go_wp2_with (go_at_call 37; (with_reducible refine HS1.mono ?_); rintro e w2 ⟨rfl, rfl⟩)
        have hp := HP.out
        exact ⟨⟨k + 1, T, S, l, by omega, by rw [hp]; go_num, rfl, by omega, by omega, HS, HK2, HM, HB⟩, by simp [intOf]; omega⟩
      by_cases z3 : z < 32
      · have d4 : decide ((z : Int) < 32) = true := decide_eq_true (by omega)
        have d3 : ((z : Int) == 127) = false := by simp; omega
        have HK2 : Hid (R = RX.be (l ++ [execP z]) (k + 1) (seqR m false T (zs.drop (at0 + (k + 1))))) := Lib.hid (by
          rw [HD.out]
          conv => lhs; unfold seqR
          rw [if_neg z1, if_neg z2, if_pos z3, cons_be, be_be, HP.out]
          rfl)
        clear z1 z2 z3 HD
        go_wp2_with (first
          | (go_at_call 37; (with_reducible refine HS1.mono ?_); rintro e w2 ⟨rfl, rfl⟩)
          | (go_at_call 26; (with_reducible refine (HEX.out wr z l hl1 HM.out).mono ?_); rintro e w3 ⟨rfl, hr3⟩; have HR3 := Lib.hid hr3; clear hr3))
        have hp := HP.out
        exact ⟨⟨k + 1, T, S, l ++ [execP z], by omega, by rw [hp]; go_num, rfl, by omega, by simp; omega, HS, HK2, Lib.hid HR3.out.1, Lib.hid (HB.out.trans HR3.out.2)⟩, by simp [intOf]; omega⟩
      have d4 : decide ((z : Int) < 32) = false := decide_eq_false (by omega)
      have d3 : ((z : Int) == 127) = false := by simp; omega
      by_cases z4 : z < 64
      · have d5 : decide ((z : Int) < 64) = true := decide_eq_true (by omega)
        have hcv := conv_one wr (UInt8.ofNat z) z (by rw [u8n z hb8])
        have HS2 : Hid (S ++ bsB [UInt8.ofNat z] = bsB (T ++ [UInt8.ofNat z])) := Lib.hid (by rw [HS.out, bsB_app])
        have HK2 : Hid (R = RX.be l (k + 1) (seqR m false (T ++ [UInt8.ofNat z]) (zs.drop (at0 + (k + 1))))) := Lib.hid (by
          rw [HD.out]
          conv => lhs; unfold seqR
          rw [if_neg z1, if_neg z2, if_neg z3, if_pos z4, up_be, be_be, List.append_nil, HP.out]
          rfl)
        have HM2 : Hid (RM (wr.alloc (.cells #[.int .u8 z] 5)) E (some ⟨b, off, none⟩) c zs m (es ++ l) 0 0) := Lib.hid (HM.out.past ((Below.refl _ _).alloc (Nat.le_refl _) _))
        have HB2 : Hid (Below E w (wr.alloc (.cells #[.int .u8 z] 5))) := Lib.hid (HB.out.trans ((Below.refl _ _).alloc (Nat.le_of_lt HM.out.lt) _))
        have hYS : (bsB [UInt8.ofNat z]).size = 1 := by rw [bsB_size]; rfl
        have hSS : S.size ≤ 1000 := by rw [HS.out, bsB_size]; omega
        generalize bsB [UInt8.ofNat z] = Y at *
        clear HS HM HB z1 z2 z3 z4 HD
        go_wp2_with (go_at_call 37; (with_reducible refine HS1.mono ?_); rintro e w2 ⟨rfl, rfl⟩)
        have hp := HP.out
        exact ⟨⟨k + 1, _, _, l, by omega, by rw [hp]; go_num, rfl, by simp; omega, by omega, HS2, HK2, HM2, HB2⟩, by simp [intOf]; omega⟩
      have d5 : decide ((z : Int) < 64) = false := decide_eq_false (by omega)
      rw [HS.out] at *
      have HK2 : Hid (R = RX.be l k ⟨csiE' T z, 0, 0, 1⟩) := Lib.hid (by
        rw [HD.out]
        conv => lhs; unfold seqR
        rw [if_neg z1, if_neg z2, if_neg z3, if_neg z4, if_neg (by simp)])
      clear z1 z2 z3 z4 HD
      go_wp2_with (first
        | (go_at_call 37; (with_reducible refine HS1.mono ?_); rintro e w2 ⟨rfl, rfl⟩)
        | (go_at_call 53; (with_reducible refine (HPA.out wr T hT1).mono ?_); rintro e w3 ⟨hb3, ⟨p3, h3, i3, hp3, rfl⟩ | ⟨hp3, p3, S1, S2, rfl⟩⟩ <;> (have HM3 := Lib.hid (HM.out.past hb3); have HP3 := Lib.hid hp3; have HB3 := Lib.hid hb3; clear hp3 hb3))
        | (go_at_call 54; (with_reducible refine (HPH.out w3 h3 (partsP_some HP3.out).1 (partsP_some HP3.out).2.1).mono ?_); rintro e w5 ⟨A5, c5, rfl, hg5, hb5⟩; have HM5 := Lib.hid (HM3.out.past hb5); have HG5 := Lib.hid hg5; have HB5 := Lib.hid hb5; clear hg5 hb5)
        | (go_at_call 26; (with_reducible refine (HAD.out w5 z T l p3 h3 i3 A5 c5 hl1 HP3.out HM5.out HG5.out).mono ?_); rintro e w6 ⟨rfl, hr6⟩; have HR6 := Lib.hid hr6; clear hr6))
      · go_ret
        refine ⟨?_, ?_, HB.out.trans ((HB3.out.mono (Nat.le_of_lt HM.out.lt)).trans ((HB5.out.mono (Nat.le_of_lt HM3.out.lt)).trans HR6.out.2))⟩
        · rw [HK2.out]
          unfold RX.be
          show Ending.returned (.int .i64 ((p : Int) + 1)) = _
          rw [HP.out]
          push_cast
          rw [Int.add_assoc]
        · rw [HK2.out]
          unfold RX.be
          show RM w6 _ _ _ _ _ (es ++ (l ++ _)) _ _
          rw [← List.append_assoc]
          exact HR6.out.1
      · go_ret
        refine ⟨?_, ?_, HB.out.trans (HB3.out.mono (Nat.le_of_lt HM.out.lt))⟩
        · rw [HK2.out]
          unfold RX.be
          show Ending.returned (.int .i64 ((p : Int) + 1)) = _
          rw [HP.out]
          push_cast
          rw [Int.add_assoc]
        · rw [HK2.out]
          unfold RX.be csiE'
          rw [HP3.out]
          show RM w3 _ _ _ _ _ (es ++ (l ++ [])) _ _
          rw [List.append_nil]
          exact HM3.out
    · have hlti : ¬ ((at0 + k : Nat) : Int) < n := by omega
      have hkn : at0 + k = n := by omega
      have hT1 : T.length ≤ 1000 := by omega
      have hR1 : R = ⟨l, if false = true then 3 else 2, heldQ T, k⟩ := by
        have e0 : zs.drop (at0 + k) = [] := List.drop_of_length_le (by rw [← HNZ.out]; omega)
        rw [HK.out, e0]
        unfold seqR RX.be
        rw [List.append_nil]
        rfl
      have HKN := Lib.hid hkn
      have HR1 := Lib.hid hR1
      clear hR1 HK HR hlt
      rw [hkn] at hlti
      rw [hkn]
      have HQ : Hid (∀ W1 W, RO E A c zs m (es ++ l) 2 0 wr W1 → Below W1.heap.size W1 W → partsP T = none → RQ E A c zs m es at0 R w (.returned (.int .i64 n)) W) := Lib.hid fun W1 W h1 hW hp => by
        have e : R = ⟨l, 2, 0, k⟩ := by
          rw [HR1.out]
          unfold heldQ
          rw [hp]
          rfl
        rw [e]
        exact ⟨by rw [← HKN.out], h1.1.past hW, HB.out.trans (h1.2.trans (hW.mono (Nat.le_of_lt h1.1.lt)))⟩
      have HQ2 : Hid (∀ W1 W p h i, RO E A c zs m (es ++ l) 2 0 wr W1 → Below W1.heap.size W1 W → partsP T = some (p, h, i) → W.cell? ⟨E, 2, none⟩ = some (.int .i64 0) ∧ W.frozen? ⟨E, 2, none⟩ = false ∧ (bsB h).size ≤ 256 ∧ (bsB i).size ≤ 2 ∧ RQ E A c zs m es at0 R w (.returned (.int .i64 n)) (W.setCell ⟨E, 2, none⟩ (.int .i64 (((bsB h).size : Int) + (bsB i).size)))) := Lib.hid fun W1 W p h i h1 hW hp => by
        have q5 := h1.1.past hW
        obtain ⟨q3, q4⟩ := q5.setHd (h.length + i.length)
        have e : R = ⟨l, 2, h.length + i.length, k⟩ := by
          rw [HR1.out]
          unfold heldQ
          rw [hp]
          rfl
        have e2 : (((bsB h).size : Int) + (bsB i).size) = ((h.length + i.length : Nat) : Int) := by
          rw [bsB_size, bsB_size]
          push_cast
          rfl
        rw [e, e2]
        exact ⟨q5.c2, q5.free 2, by rw [bsB_size]; exact (partsP_some hp).2.1, by rw [bsB_size]; exact (partsP_some hp).2.2.1, by rw [← HKN.out], q3, HB.out.trans (h1.2.trans ((hW.mono (Nat.le_of_lt h1.1.lt)).trans q4))⟩
      have HQB : Hid (∀ W1 W e, RO E A c zs m (es ++ l) 2 0 wr W1 → PartsPost T W1 e W → (∃ p h i, e = .returned (.tuple #[.int .u8 p, .string (bsB h), .string (bsB i), .bool true]) ∧ W.cell? ⟨E, 2, none⟩ = some (.int .i64 0) ∧ W.frozen? ⟨E, 2, none⟩ = false ∧ (bsB h).size ≤ 256 ∧ (bsB i).size ≤ 2 ∧ RQ E A c zs m es at0 R w (.returned (.int .i64 n)) (W.setCell ⟨E, 2, none⟩ (.int .i64 (((bsB h).size : Int) + (bsB i).size)))) ∨ (∃ p S1 S2, e = .returned (.tuple #[.int .u8 p, .string S1, .string S2, .bool false]) ∧ RQ E A c zs m es at0 R w (.returned (.int .i64 n)) W)) := Lib.hid fun W1 W e h1 hp => by
        obtain ⟨hb, ⟨p, h, i, hp, he⟩ | ⟨hp, p, S1, S2, he⟩⟩ := hp
        · exact .inl ⟨p, h, i, he, HQ2.out W1 W p h i h1 hb hp⟩
        · exact .inr ⟨p, S1, S2, he, HQ.out W1 W h1 hb hp⟩
      have k1 := HM.out.c1
      have f1 := HM.out.free 1
      rw [HS.out] at *
      have HW1 : Hid (RO E A c zs m (es ++ l) 2 0 wr (wr.setCell ⟨E, 1, none⟩ (.int .i64 2))) := Lib.hid (HM.out.setSt 2)
      go_wp2_with (first
        | (go_at_call 53; (with_reducible refine (HPA.out _ T hT1).mono ?_); rintro e w3 hpp; obtain ⟨p3, h3, i3, rfl, k2, f2, z1, z2, hq⟩ | ⟨p3, S1, S2, rfl, hq⟩ := HQB.out _ w3 e HW1.out hpp <;> (have HQ3 := Lib.hid hq; clear hq hpp)))
      all_goals
        go_ret
        exact HQ3.out

set_option maxRecDepth 100000 in
set_option maxHeartbeats 16000000 in
theorem sequence_t (w : World) (E : Nat) (A : Option Addr) (c : Nat) (zs : List Nat) (m : Nat) (es : List PE) (at0 : Nat) (h : RM w E A c zs m es 0 0) (hc : zs.length ≤ c) (hat : at0 ≤ zs.length) (hz : zs.length ≤ 1000) (hn : es.length ≤ 40000) :
    Calls Tryd.prog 40 #[.pointer (some ⟨E, 0, none⟩), .int .i64 at0, .bool true] w (RQ E A c zs m es at0 (seqR m true [] (zs.drop at0)) w) := by
  obtain ⟨R, hR⟩ : ∃ R, R = seqR m true [] (zs.drop at0) := ⟨_, rfl⟩
  have HR : Hid (R = RX.be [] 0 (seqR m true [] (zs.drop at0))) := Lib.hid (by rw [be_nil]; exact hR)
  rw [← hR]
  clear hR
  have HI : Hid (RM w E A c zs m (es ++ []) 0 0) := Lib.hid (by rw [List.append_nil]; exact h)
  clear h
  obtain ⟨n, hnz⟩ : ∃ n, n = zs.length := ⟨_, rfl⟩
  have HNZ := Lib.hid hnz
  have HCC := Lib.hid hc
  have HZZ := Lib.hid hz
  rw [← hnz] at hc hat hz
  clear hnz
  have HST : Hid (∀ W z, Calls Tryd.prog 37 #[.int .u8 (z : Nat)] W fun e w' => e = .returned (.bool (stopB z)) ∧ W = w') := Lib.hid fun W z => stops_any z W
  have HPA : Hid (∀ W T, T.length ≤ 1000 → Calls Tryd.prog 53 #[.string (bsB T)] W (PartsPost T W)) := Lib.hid fun W T hT => by
    have := parts_any (bsB T) W (by rw [bsB_size]; exact hT)
    rw [show (bsB T).data.toList = T by simp [bsB]] at this
    exact this
  have HPH : Hid (∀ W h, headL h = true → h.length ≤ 256 → Calls Tryd.prog 54 #[.string (bsB h)] W fun e w' => ∃ A c, e = .returned (.tuple #[.slice A (HZ h).length c, .bool true]) ∧ RGt w' A (HZ h) ∧ Below W.heap.size W w') := Lib.hid fun W h h1 h2 => parse_h h W h1 h2
  have HAD : Hid (∀ W (z : Nat) (T : List UInt8) (l : List PE) (p : Int) (h i : List UInt8) A5 c5, l.length ≤ 1000 → partsP T = some (p, h, i) → RM W E A c zs m (es ++ l) 0 0 → RGt W A5 (HZ h) → Calls Tryd.prog 26 #[.pointer (some ⟨E, 0, none⟩), .agg #[.int .i64 3, .int .i32 0, .int .u8 z, .int .u8 p, .slice A5 (HZ h).length c5, .string (bsB i), .string ⟨#[]⟩, .bool false]] W fun en w' => en = .returned (.tuple #[]) ∧ RO E A c zs m ((es ++ l) ++ csiE' T z) 0 0 W w') := Lib.hid fun W z T l p h i A5 c5 hl hp hM hg => by
    have e : csiE' T z = [⟨3, 0, z, p, HZ h, bsB i, ⟨#[]⟩, false⟩] := by
      unfold csiE'
      rw [hp]
    rw [e]
    exact add_any W E A c zs m (es ++ l) 0 0 ⟨3, 0, z, p, .slice A5 (HZ h).length c5, bsB i, ⟨#[]⟩, false⟩ _ hM ⟨rfl, rfl, rfl, rfl, rfl, rfl, rfl, A5, c5, rfl, hg⟩ (by rw [List.length_append]; omega)
  have HEX : Hid (∀ W (z : Nat) (l : List PE), l.length ≤ 1000 → RM W E A c zs m (es ++ l) 0 0 → Calls Tryd.prog 26 #[.pointer (some ⟨E, 0, none⟩), .agg #[.int .i64 1, .int .i32 0, .int .u8 z, .int .u8 0, .slice none 0 0, .string ⟨#[]⟩, .string ⟨#[]⟩, .bool false]] W fun en w' => en = .returned (.tuple #[]) ∧ RO E A c zs m (es ++ (l ++ [execP z])) 0 0 W w') := Lib.hid fun W z l hl hM => by
    rw [← List.append_assoc]
    exact add_any W E A c zs m (es ++ l) 0 0 (execE z) _ hM (exec_ok W z) (by rw [List.length_append]; omega)
  have HPY : Hid (∀ W (z : Nat) (T : List UInt8) (l : List PE) (q : Int) (p : Nat), q = (p : Nat) → p ≤ n → T.length ≤ 1000 → l.length ≤ 1000 → RM W E A c zs m (es ++ l) 0 0 → Calls Tryd.prog 52 #[.pointer (some ⟨E, 0, none⟩), .int .i64 q, .string (bsB T), .int .u8 z] W (RQ E A c zs m (es ++ l) p (payR m T z [] (zs.drop p)) W)) := Lib.hid fun W z T l q p hq hp hT hl hM => by
    rw [hq]
    exact payload_any W E A c zs m (es ++ l) p T z hM HCC.out (by rw [← HNZ.out]; exact hp) HZZ.out (by rw [List.length_append]; omega) hT
  go_enter Tryd.func40, Tryd.ntmps40
  go_wp2
  go_loopw [1, 7] (fun i s wr => ∃ (k : Nat) (T : List UInt8) (S : ByteArray) (l : List PE), at0 + k ≤ n ∧ i = .int .i64 (at0 + k : Nat) ∧ s = .string S ∧ T.length ≤ k ∧ l.length ≤ k ∧ Hid (S = bsB T) ∧ Hid (R = RX.be l k (seqR m true T (zs.drop (at0 + k)))) ∧ Hid (RM wr E A c zs m (es ++ l) 0 0) ∧ Hid (Below E w wr)) (fun i _ _ => n - (intOf i).toNat)
  case atStart => exact ⟨0, [], _, [], by omega, rfl, rfl, Nat.le_refl _, Nat.le_refl _, Lib.hid rfl, HR, HI, Lib.hid (Below.refl _ _)⟩
  case round =>
    obtain ⟨k, T, S, l, hk, rfl, rfl, hT, hl, HS, HK, HM, HB⟩ := hrel
    have hc3 := HM.out.c3
    rw [← HNZ.out] at hc3
    by_cases hlt : at0 + k < n
    · obtain ⟨b, off, hA, hb, hb8⟩ := HM.out.byte (at0 + k) (by rw [← HNZ.out]; exact hlt)
      subst hA
      have hlti : ((at0 + k : Nat) : Int) < n := by omega
      have HD : Hid (R = RX.be l k (seqR m true T (zs[at0 + k]?.getD 0 :: zs.drop (at0 + k + 1)))) := Lib.hid (by rw [HK.out, drop_at zs (at0 + k) (by rw [← HNZ.out]; exact hlt)])
      generalize zs[at0 + k]?.getD 0 = z at *
      clear HK HR
      obtain ⟨p, hp⟩ : ∃ p, p = at0 + k := ⟨_, rfl⟩
      have hoff : off + (at0 + k) = off + p := by rw [hp]
      rw [hoff] at hb
      rw [← hp] at hlti hk hlt HD
      rw [← hp]
      have HP := Lib.hid hp
      clear hoff hp
      have hl1 : l.length ≤ 1000 := by have := HP.out; omega
      have hT1 : T.length ≤ 1000 := by have := HP.out; omega
      by_cases z1 : 128 ≤ z ∨ stopB z = true
      · have HQ : Hid (RQ E (some ⟨b, off, none⟩) c zs m es at0 R w (.returned (.int .i64 p)) wr) := Lib.hid (by
          have e : R = ⟨l, 0, 0, k⟩ := by
            rw [HD.out]
            conv => lhs; unfold seqR
            rw [if_pos z1]
            unfold RX.be
            rw [List.append_nil]
            rfl
          rw [e]
          exact ⟨by rw [HP.out], HM.out, HB.out⟩)
        by_cases z2 : 128 ≤ z
        · have d1 : decide (128 ≤ (z : Int)) = true := decide_eq_true (by omega)
          clear z1 z2
          go_wp2
          go_ret
          exact HQ.out
        · have d1 : decide (128 ≤ (z : Int)) = false := decide_eq_false (by omega)
          have HS1 := HST.out wr z
          rw [z1.resolve_left z2] at HS1
          clear z1 z2
          go_wp2_with (go_at_call 37; (with_reducible refine HS1.mono ?_); rintro e w2 ⟨rfl, rfl⟩)
          go_ret
          exact HQ.out
      have d1 : decide (128 ≤ (z : Int)) = false := decide_eq_false (by omega)
      have HS1 := HST.out wr z
      rw [show stopB z = false by cases hq : stopB z with | false => rfl | true => exact absurd (.inr hq) z1] at HS1
      by_cases z2 : z = 127 ∨ z < 32 ∧ true = true
      · have HK2 : Hid (R = RX.be l (k + 1) (seqR m true T (zs.drop (at0 + (k + 1))))) := Lib.hid (by
          rw [HD.out]
          conv => lhs; unfold seqR
          rw [if_neg z1, if_pos z2, up_be, be_be, List.append_nil, HP.out]
          rfl)
        have d34 : ((z : Int) == 127) = true ∨ ((z : Int) == 127) = false ∧ decide ((z : Int) < 32) = true := by
          by_cases h : z = 127
          · exact .inl (by simp; omega)
          · exact .inr ⟨by simp; omega, decide_eq_true (by omega)⟩
        clear z1 z2
        rcases d34 with d3 | ⟨d3, d4⟩
        all_goals
          go_wp2_with (go_at_call 37; (with_reducible refine HS1.mono ?_); rintro e w2 ⟨rfl, rfl⟩)
          have hp := HP.out
          exact ⟨⟨k + 1, T, S, l, by omega, by rw [hp]; go_num, rfl, by omega, by omega, HS, HK2, HM, HB⟩, by simp [intOf]; omega⟩
      by_cases z3 : z < 32
      · exact absurd (.inr ⟨z3, rfl⟩) z2
      have d4 : decide ((z : Int) < 32) = false := decide_eq_false (by omega)
      have d3 : ((z : Int) == 127) = false := by simp; omega
      by_cases z4 : z < 64
      · have d5 : decide ((z : Int) < 64) = true := decide_eq_true (by omega)
        have hcv := conv_one wr (UInt8.ofNat z) z (by rw [u8n z hb8])
        have HS2 : Hid (S ++ bsB [UInt8.ofNat z] = bsB (T ++ [UInt8.ofNat z])) := Lib.hid (by rw [HS.out, bsB_app])
        have HK2 : Hid (R = RX.be l (k + 1) (seqR m true (T ++ [UInt8.ofNat z]) (zs.drop (at0 + (k + 1))))) := Lib.hid (by
          rw [HD.out]
          conv => lhs; unfold seqR
          rw [if_neg z1, if_neg z2, if_neg z3, if_pos z4, up_be, be_be, List.append_nil, HP.out]
          rfl)
        have HM2 : Hid (RM (wr.alloc (.cells #[.int .u8 z] 5)) E (some ⟨b, off, none⟩) c zs m (es ++ l) 0 0) := Lib.hid (HM.out.past ((Below.refl _ _).alloc (Nat.le_refl _) _))
        have HB2 : Hid (Below E w (wr.alloc (.cells #[.int .u8 z] 5))) := Lib.hid (HB.out.trans ((Below.refl _ _).alloc (Nat.le_of_lt HM.out.lt) _))
        have hYS : (bsB [UInt8.ofNat z]).size = 1 := by rw [bsB_size]; rfl
        have hSS : S.size ≤ 1000 := by rw [HS.out, bsB_size]; omega
        generalize bsB [UInt8.ofNat z] = Y at *
        clear HS HM HB z1 z2 z3 z4 HD
        go_wp2_with (go_at_call 37; (with_reducible refine HS1.mono ?_); rintro e w2 ⟨rfl, rfl⟩)
        have hp := HP.out
        exact ⟨⟨k + 1, _, _, l, by omega, by rw [hp]; go_num, rfl, by simp; omega, by omega, HS2, HK2, HM2, HB2⟩, by simp [intOf]; omega⟩
      have d5 : decide ((z : Int) < 64) = false := decide_eq_false (by omega)
      rw [HS.out] at *
      have HK2 : Hid (R = RX.be l (k + 1) (payR m T z [] (zs.drop (p + 1)))) := Lib.hid (by
        rw [HD.out]
        conv => lhs; unfold seqR
        rw [if_neg z1, if_neg z2, if_neg z3, if_neg z4, if_pos rfl, up_be, be_be, List.append_nil])
      clear z1 z2 z3 z4 HD
      go_wp2_with (first
        | (go_at_call 37; (with_reducible refine HS1.mono ?_); rintro e w2 ⟨rfl, rfl⟩)
        | (go_at_call 52; (with_reducible refine (HPY.out wr z T l _ (p + 1) (by push_cast; rfl) (by omega) hT1 hl1 HM.out).mono ?_); rintro e w3 ⟨rfl, hr3⟩; have HR3 := Lib.hid hr3; clear hr3))
      go_ret
      refine ⟨?_, ?_, HB.out.trans HR3.out.2⟩
      · rw [HK2.out]
        unfold RX.be
        show Ending.returned (.int .i64 ((p + 1 + _ : Nat) : Int)) = _
        rw [HP.out, show at0 + k + 1 + (payR m T (z : Int) [] (zs.drop (at0 + k + 1))).n = at0 + (k + 1 + (payR m T (z : Int) [] (zs.drop (at0 + k + 1))).n) by omega]
      · rw [HK2.out]
        unfold RX.be
        show RM w3 _ _ _ _ _ (es ++ (l ++ _)) _ _
        rw [← List.append_assoc]
        exact HR3.out.1
    · have hlti : ¬ ((at0 + k : Nat) : Int) < n := by omega
      have hkn : at0 + k = n := by omega
      have hT1 : T.length ≤ 1000 := by omega
      have hR1 : R = ⟨l, if true = true then 3 else 2, heldQ T, k⟩ := by
        have e0 : zs.drop (at0 + k) = [] := List.drop_of_length_le (by rw [← HNZ.out]; omega)
        rw [HK.out, e0]
        unfold seqR RX.be
        rw [List.append_nil]
        rfl
      have HKN := Lib.hid hkn
      have HR1 := Lib.hid hR1
      clear hR1 HK HR hlt
      rw [hkn] at hlti
      rw [hkn]
      have HQ : Hid (∀ W1 W, RO E A c zs m (es ++ l) 3 0 wr W1 → Below W1.heap.size W1 W → partsP T = none → RQ E A c zs m es at0 R w (.returned (.int .i64 n)) W) := Lib.hid fun W1 W h1 hW hp => by
        have e : R = ⟨l, 3, 0, k⟩ := by
          rw [HR1.out]
          unfold heldQ
          rw [hp]
          rfl
        rw [e]
        exact ⟨by rw [← HKN.out], h1.1.past hW, HB.out.trans (h1.2.trans (hW.mono (Nat.le_of_lt h1.1.lt)))⟩
      have HQ2 : Hid (∀ W1 W p h i, RO E A c zs m (es ++ l) 3 0 wr W1 → Below W1.heap.size W1 W → partsP T = some (p, h, i) → W.cell? ⟨E, 2, none⟩ = some (.int .i64 0) ∧ W.frozen? ⟨E, 2, none⟩ = false ∧ (bsB h).size ≤ 256 ∧ (bsB i).size ≤ 2 ∧ RQ E A c zs m es at0 R w (.returned (.int .i64 n)) (W.setCell ⟨E, 2, none⟩ (.int .i64 (((bsB h).size : Int) + (bsB i).size)))) := Lib.hid fun W1 W p h i h1 hW hp => by
        have q5 := h1.1.past hW
        obtain ⟨q3, q4⟩ := q5.setHd (h.length + i.length)
        have e : R = ⟨l, 3, h.length + i.length, k⟩ := by
          rw [HR1.out]
          unfold heldQ
          rw [hp]
          rfl
        have e2 : (((bsB h).size : Int) + (bsB i).size) = ((h.length + i.length : Nat) : Int) := by
          rw [bsB_size, bsB_size]
          push_cast
          rfl
        rw [e, e2]
        exact ⟨q5.c2, q5.free 2, by rw [bsB_size]; exact (partsP_some hp).2.1, by rw [bsB_size]; exact (partsP_some hp).2.2.1, by rw [← HKN.out], q3, HB.out.trans (h1.2.trans ((hW.mono (Nat.le_of_lt h1.1.lt)).trans q4))⟩
      have HQB : Hid (∀ W1 W e, RO E A c zs m (es ++ l) 3 0 wr W1 → PartsPost T W1 e W → (∃ p h i, e = .returned (.tuple #[.int .u8 p, .string (bsB h), .string (bsB i), .bool true]) ∧ W.cell? ⟨E, 2, none⟩ = some (.int .i64 0) ∧ W.frozen? ⟨E, 2, none⟩ = false ∧ (bsB h).size ≤ 256 ∧ (bsB i).size ≤ 2 ∧ RQ E A c zs m es at0 R w (.returned (.int .i64 n)) (W.setCell ⟨E, 2, none⟩ (.int .i64 (((bsB h).size : Int) + (bsB i).size)))) ∨ (∃ p S1 S2, e = .returned (.tuple #[.int .u8 p, .string S1, .string S2, .bool false]) ∧ RQ E A c zs m es at0 R w (.returned (.int .i64 n)) W)) := Lib.hid fun W1 W e h1 hp => by
        obtain ⟨hb, ⟨p, h, i, hp, he⟩ | ⟨hp, p, S1, S2, he⟩⟩ := hp
        · exact .inl ⟨p, h, i, he, HQ2.out W1 W p h i h1 hb hp⟩
        · exact .inr ⟨p, S1, S2, he, HQ.out W1 W h1 hb hp⟩
      have k1 := HM.out.c1
      have f1 := HM.out.free 1
      rw [HS.out] at *
      have HW2 : Hid (RO E A c zs m (es ++ l) 3 0 wr ((wr.setCell ⟨E, 1, none⟩ (.int .i64 2)).setCell ⟨E, 1, none⟩ (.int .i64 3))) := Lib.hid (by
        obtain ⟨q1, q2⟩ := HM.out.setSt 2
        obtain ⟨q3, q4⟩ := q1.setSt 3
        exact ⟨q3, q2.trans q4⟩)
      have HW3 : Hid (RO E A c zs m (es ++ l) 3 0 wr (wr.setCell ⟨E, 1, none⟩ (.int .i64 3))) := Lib.hid (HM.out.setSt 3)
      go_wp2_with (first
        | (go_at_call 53; (with_reducible refine (HPA.out _ T hT1).mono ?_); rintro e w3 hpp; obtain ⟨p3, h3, i3, rfl, k2, f2, z1, z2, hq⟩ | ⟨p3, S1, S2, rfl, hq⟩ := HQB.out _ w3 e HW2.out hpp <;> (have HQ3 := Lib.hid hq; clear hq hpp)))
      all_goals
        go_ret
        exact HQ3.out

end Go.Proofs.YtmmkcfjncpcabaaDoor

namespace Go.Proofs.YtmmkcfjncpcabaaDoor
open Go.RowKit

theorem esc_ok (w : World) (z : Int) (T : List UInt8) : EOK w (escE z T) (escPE z T) := ⟨rfl, rfl, rfl, rfl, rfl, rfl, rfl, none, 0, rfl, rg_nil w⟩
set_option maxRecDepth 100000 in
set_option maxHeartbeats 8000000 in
theorem last_str (w : World) (E : Nat) (A : Option Addr) (c : Nat) (zs : List Nat) (m : Nat) (es : List PE) (at0 : Nat) (x : Int) (hx : x = 88 ∨ x = 94 ∨ x = 95) (h : RM w E A c zs m es 0 0) (hat : at0 ≤ zs.length) (hz : zs.length ≤ 1000) :
    Calls Tryd.prog 29 #[.pointer (some ⟨E, 0, none⟩), .int .i64 at0, .int .u8 x] w (RQ E A c zs m es at0 (strR (zs.drop at0)) w) := by
  obtain ⟨R, hR⟩ : ∃ R, R = strR (zs.drop at0) := ⟨_, rfl⟩
  have HR : Hid (R = RX.be [] 0 (strR (zs.drop at0))) := Lib.hid (by rw [be_nil]; exact hR)
  rw [← hR]
  clear hR
  have HI : Hid (RO E A c zs m es 5 0 w (w.setCell ⟨E, 1, none⟩ (.int .i64 5))) := Lib.hid (h.setSt 5)
  have k1 := h.c1
  have f1 := h.free 1
  clear h
  obtain ⟨n, hnz⟩ : ∃ n, n = zs.length := ⟨_, rfl⟩
  have HNZ := Lib.hid hnz
  rw [← hnz] at hat hz
  clear hnz
  have HST : Hid (∀ W z, Calls Tryd.prog 37 #[.int .u8 (z : Nat)] W fun e w' => e = .returned (.bool (stopB z)) ∧ W = w') := Lib.hid fun W z => stops_any z W
  rcases hx with rfl | rfl | rfl
  all_goals
    go_enter Tryd.func29, Tryd.ntmps29
    go_wp2
    go_loopw [1] (fun i wr => ∃ (k : Nat), at0 + k ≤ n ∧ i = .int .i64 (at0 + k : Nat) ∧ Hid (R = RX.be [] k (strR (zs.drop (at0 + k)))) ∧ Hid (RO E A c zs m es 5 0 w wr)) (fun i _ => n - (intOf i).toNat)
    case atStart => exact ⟨0, by omega, rfl, HR, HI⟩
    case round =>
      obtain ⟨k, hk, rfl, HK, HM⟩ := hrel
      have hc3 := HM.out.1.c3
      rw [← HNZ.out] at hc3
      by_cases hlt : at0 + k < n
      · obtain ⟨b, off, hA, hb, hb8⟩ := HM.out.1.byte (at0 + k) (by rw [← HNZ.out]; exact hlt)
        subst hA
        have hlti : ((at0 + k : Nat) : Int) < n := by omega
        have HD : Hid (R = RX.be [] k (strR (zs[at0 + k]?.getD 0 :: zs.drop (at0 + k + 1)))) := Lib.hid (by rw [HK.out, drop_at zs (at0 + k) (by rw [← HNZ.out]; exact hlt)])
        generalize zs[at0 + k]?.getD 0 = z at *
        clear HK HR
        obtain ⟨p, hp⟩ : ∃ p, p = at0 + k := ⟨_, rfl⟩
        have hoff : off + (at0 + k) = off + p := by rw [hp]
        rw [hoff] at hb
        rw [← hp] at hlti hk hlt HD
        rw [← hp]
        have HP := Lib.hid hp
        clear hoff hp
        have HS1 := HST.out wr z
        cases hsb : stopB z with
        | false =>
          rw [hsb] at HS1
          have HK2 : Hid (R = RX.be [] (k + 1) (strR (zs.drop (at0 + (k + 1))))) := Lib.hid (by
            rw [HD.out]
            conv => lhs; unfold strR
            rw [hsb, if_neg (by simp), up_be, be_be, HP.out]
            rfl)
          clear hsb HD
          go_wp2_with (go_at_call 37; (with_reducible refine HS1.mono ?_); rintro e w2 ⟨rfl, rfl⟩)
          have hp := HP.out
          exact ⟨⟨k + 1, by omega, by rw [hp]; go_num, HK2, HM⟩, by simp [intOf]; omega⟩
        | true =>
          rw [hsb] at HS1
          have HQ : Hid (RQ E (some ⟨b, off, none⟩) c zs m es at0 R w (.returned (.int .i64 p)) wr) := Lib.hid (by
            have e : R = ⟨[], 5, 0, k⟩ := by
              rw [HD.out]
              conv => lhs; unfold strR
              rw [hsb, if_pos rfl]
              rfl
            rw [e]
            exact ⟨by rw [HP.out], by rw [List.append_nil]; exact HM.out.1, HM.out.2⟩)
          clear hsb HD
          go_wp2_with (go_at_call 37; (with_reducible refine HS1.mono ?_); rintro e w2 ⟨rfl, rfl⟩)
          go_ret
          exact HQ.out
      · have hlti : ¬ ((at0 + k : Nat) : Int) < n := by omega
        have HQ : Hid (RQ E A c zs m es at0 R w (.returned (.int .i64 ((at0 : Int) + k))) wr) := Lib.hid (by
          have e0 : zs.drop (at0 + k) = [] := List.drop_of_length_le (by rw [← HNZ.out]; omega)
          have e : R = ⟨[], 5, 0, k⟩ := by
            rw [HK.out, e0]
            rfl
          rw [e]
          exact ⟨by simp, by rw [List.append_nil]; exact HM.out.1, HM.out.2⟩)
        go_wp2
        go_ret
        exact HQ.out
set_option maxRecDepth 100000 in
set_option maxHeartbeats 8000000 in
theorem last_any (w : World) (E : Nat) (A : Option Addr) (c : Nat) (zs : List Nat) (m : Nat) (es : List PE) (at0 : Nat) (x : Int) (h : RM w E A c zs m es 0 0) (hc : zs.length ≤ c) (hat : at0 ≤ zs.length) (hz : zs.length ≤ 1000) (hn : es.length ≤ 30000) :
    Calls Tryd.prog 29 #[.pointer (some ⟨E, 0, none⟩), .int .i64 at0, .int .u8 x] w (RQ E A c zs m es at0 (lastR m x (zs.drop at0)) w) := by
  unfold lastR
  by_cases x1 : x = 91
  · have HC := Lib.hid (sequence_f w E A c zs m es at0 h hc hat hz (by omega))
    rw [if_pos x1]
    subst x1
    generalize seqR m false [] (zs.drop at0) = R at *
    clear h hc hat hz hn
    go_enter Tryd.func29, Tryd.ntmps29
    go_wp2_with (go_at_call 40; (with_reducible refine HC.out.mono ?_); rintro e w2 ⟨rfl, hr⟩; have HR2 := Lib.hid hr; clear hr)
    go_ret
    exact ⟨rfl, HR2.out⟩
  rw [if_neg x1]
  by_cases x2 : x = 80
  · have HC := Lib.hid (sequence_t w E A c zs m es at0 h hc hat hz (by omega))
    rw [if_pos x2]
    subst x2
    generalize seqR m true [] (zs.drop at0) = R at *
    clear h hc hat hz hn
    go_enter Tryd.func29, Tryd.ntmps29
    go_wp2_with (go_at_call 40; (with_reducible refine HC.out.mono ?_); rintro e w2 ⟨rfl, hr⟩; have HR2 := Lib.hid hr; clear hr)
    go_ret
    exact ⟨rfl, HR2.out⟩
  rw [if_neg x2]
  by_cases x3 : x = 93
  · have HC := Lib.hid (command_any w E A c zs m es at0 h hc hat hz (by omega))
    rw [if_pos x3]
    subst x3
    generalize cmdR m [] (zs.drop at0) = R at *
    clear h hc hat hz hn
    go_enter Tryd.func29, Tryd.ntmps29
    go_wp2_with (go_at_call 41; (with_reducible refine HC.out.mono ?_); rintro e w2 ⟨rfl, hr⟩; have HR2 := Lib.hid hr; clear hr)
    go_ret
    exact ⟨rfl, HR2.out⟩
  rw [if_neg x3]
  by_cases x4 : x = 88 ∨ x = 94 ∨ x = 95
  · rw [if_pos x4]
    exact last_str w E A c zs m es at0 x x4 h hat hz
  · rw [if_neg x4]
    have HC := Lib.hid (add_any w E A c zs m es 0 0 (escE x []) _ h (esc_ok w x []) (by omega))
    have d1 : (x == 91) = false := by simpa using x1
    have d2 : (x == 80) = false := by simpa using x2
    have d3 : (x == 93) = false := by simpa using x3
    have d4 : (x == 88) = false := by simp; omega
    have d5 : (x == 94) = false := by simp; omega
    have d6 : (x == 95) = false := by simp; omega
    have HC2 : Hid (Calls Tryd.prog 26 #[.pointer (some ⟨E, 0, none⟩), .agg #[.int .i64 2, .int .i32 0, .int .u8 x, .int .u8 0, .slice none 0 0, .string ⟨#[]⟩, .string ⟨#[]⟩, .bool false]] w fun en w' => en = .returned (.tuple #[]) ∧ RO E A c zs m (es ++ [escPE x []]) 0 0 w w') := HC
    clear h hc hat hz hn HC x1 x2 x3 x4
    go_enter Tryd.func29, Tryd.ntmps29
    go_wp2_with (go_at_call 26; (with_reducible refine HC2.out.mono ?_); rintro e w2 ⟨rfl, hr⟩; have HR2 := Lib.hid hr; clear hr)
    go_ret
    exact ⟨rfl, HR2.out⟩

end Go.Proofs.YtmmkcfjncpcabaaDoor

namespace Go.Proofs.YtmmkcfjncpcabaaDoor
open Go.RowKit

set_option maxRecDepth 100000 in
set_option maxHeartbeats 16000000 in
theorem escape_any (w : World) (E : Nat) (A : Option Addr) (c : Nat) (zs : List Nat) (m : Nat) (es : List PE) (at0 : Nat) (h : RM w E A c zs m es 0 0) (hc : zs.length ≤ c) (hat : at0 ≤ zs.length) (hz : zs.length ≤ 1000) (hn : es.length ≤ 20000) :
    Calls Tryd.prog 25 #[.pointer (some ⟨E, 0, none⟩), .int .i64 at0] w (RQ E A c zs m es at0 (escR m [] (zs.drop at0)) w) := by
  obtain ⟨R, hR⟩ : ∃ R, R = escR m [] (zs.drop at0) := ⟨_, rfl⟩
  have HR : Hid (R = RX.be [] 0 (escR m [] (zs.drop at0))) := Lib.hid (by rw [be_nil]; exact hR)
  rw [← hR]
  clear hR
  have HI : Hid (RM w E A c zs m (es ++ []) 0 0) := Lib.hid (by rw [List.append_nil]; exact h)
  clear h
  obtain ⟨n, hnz⟩ : ∃ n, n = zs.length := ⟨_, rfl⟩
  have HNZ := Lib.hid hnz
  have HCC := Lib.hid hc
  have HZZ := Lib.hid hz
  rw [← hnz] at hc hat hz
  clear hnz
  have HST : Hid (∀ W z, Calls Tryd.prog 37 #[.int .u8 (z : Nat)] W fun e w' => e = .returned (.bool (stopB z)) ∧ W = w') := Lib.hid fun W z => stops_any z W
  have HEX : Hid (∀ W (z : Nat) (l : List PE), l.length ≤ 1000 → RM W E A c zs m (es ++ l) 0 0 → Calls Tryd.prog 26 #[.pointer (some ⟨E, 0, none⟩), .agg #[.int .i64 1, .int .i32 0, .int .u8 z, .int .u8 0, .slice none 0 0, .string ⟨#[]⟩, .string ⟨#[]⟩, .bool false]] W fun en w' => en = .returned (.tuple #[]) ∧ RO E A c zs m (es ++ (l ++ [execP z])) 0 0 W w') := Lib.hid fun W z l hl hM => by
    rw [← List.append_assoc]
    exact add_any W E A c zs m (es ++ l) 0 0 (execE z) _ hM (exec_ok W z) (by rw [List.length_append]; omega)
  have HES : Hid (∀ W (z : Nat) (T : List UInt8) (l : List PE), l.length ≤ 1000 → RM W E A c zs m (es ++ l) 0 0 → Calls Tryd.prog 26 #[.pointer (some ⟨E, 0, none⟩), .agg #[.int .i64 2, .int .i32 0, .int .u8 z, .int .u8 0, .slice none 0 0, .string (bsB T), .string ⟨#[]⟩, .bool false]] W fun en w' => en = .returned (.tuple #[]) ∧ RO E A c zs m (es ++ (l ++ [escPE z T])) 0 0 W w') := Lib.hid fun W z T l hl hM => by
    rw [← List.append_assoc]
    exact add_any W E A c zs m (es ++ l) 0 0 (escE z T) _ hM (esc_ok W z T) (by rw [List.length_append]; omega)
  have HLA : Hid (∀ W (z : Nat) (l : List PE) (q : Int) (p : Nat), q = (p : Nat) → p ≤ n → l.length ≤ 1000 → RM W E A c zs m (es ++ l) 0 0 → Calls Tryd.prog 29 #[.pointer (some ⟨E, 0, none⟩), .int .i64 q, .int .u8 z] W (RQ E A c zs m (es ++ l) p (lastR m z (zs.drop p)) W)) := Lib.hid fun W z l q p hq hp hl hM => by
    rw [hq]
    exact last_any W E A c zs m (es ++ l) p z hM HCC.out (by rw [← HNZ.out]; exact hp) HZZ.out (by rw [List.length_append]; omega)
  go_enter Tryd.func25, Tryd.ntmps25
  go_wp2
  go_loopw [1, 5] (fun i s wr => ∃ (k : Nat) (T : List UInt8) (S : ByteArray) (l : List PE), at0 + k ≤ n ∧ i = .int .i64 (at0 + k : Nat) ∧ s = .string S ∧ T.length ≤ k ∧ l.length ≤ k ∧ Hid (S = bsB T) ∧ Hid (R = RX.be l k (escR m T (zs.drop (at0 + k)))) ∧ Hid (RM wr E A c zs m (es ++ l) 0 0) ∧ Hid (Below E w wr)) (fun i _ _ => n - (intOf i).toNat)
  case atStart => exact ⟨0, [], _, [], by omega, rfl, rfl, Nat.le_refl _, Nat.le_refl _, Lib.hid rfl, HR, HI, Lib.hid (Below.refl _ _)⟩
  case round =>
    obtain ⟨k, T, S, l, hk, rfl, rfl, hT, hl, HS, HK, HM, HB⟩ := hrel
    have hc3 := HM.out.c3
    rw [← HNZ.out] at hc3
    by_cases hlt : at0 + k < n
    · obtain ⟨b, off, hA, hb, hb8⟩ := HM.out.byte (at0 + k) (by rw [← HNZ.out]; exact hlt)
      subst hA
      have hlti : ((at0 + k : Nat) : Int) < n := by omega
      have HD : Hid (R = RX.be l k (escR m T (zs[at0 + k]?.getD 0 :: zs.drop (at0 + k + 1)))) := Lib.hid (by rw [HK.out, drop_at zs (at0 + k) (by rw [← HNZ.out]; exact hlt)])
      generalize zs[at0 + k]?.getD 0 = z at *
      clear HK HR
      obtain ⟨p, hp⟩ : ∃ p, p = at0 + k := ⟨_, rfl⟩
      have hoff : off + (at0 + k) = off + p := by rw [hp]
      rw [hoff] at hb
      rw [← hp] at hlti hk hlt HD
      rw [← hp]
      have HP := Lib.hid hp
      clear hoff hp
      have hl1 : l.length ≤ 1000 := by have := HP.out; omega
      have hT1 : T.length ≤ 1000 := by have := HP.out; omega
      by_cases z1 : 128 ≤ z ∨ stopB z = true
      · have HQ : Hid (RQ E (some ⟨b, off, none⟩) c zs m es at0 R w (.returned (.int .i64 p)) wr) := Lib.hid (by
          have e : R = ⟨l, 0, 0, k⟩ := by
            rw [HD.out]
            conv => lhs; unfold escR
            rw [if_pos z1]
            unfold RX.be
            rw [List.append_nil]
            rfl
          rw [e]
          exact ⟨by rw [HP.out], HM.out, HB.out⟩)
        by_cases z2 : 128 ≤ z
        · have d1 : decide (128 ≤ (z : Int)) = true := decide_eq_true (by omega)
          clear z1 z2
          go_wp2
          go_ret
          exact HQ.out
        · have d1 : decide (128 ≤ (z : Int)) = false := decide_eq_false (by omega)
          have HS1 := HST.out wr z
          rw [z1.resolve_left z2] at HS1
          clear z1 z2
          go_wp2_with (go_at_call 37; (with_reducible refine HS1.mono ?_); rintro e w2 ⟨rfl, rfl⟩)
          go_ret
          exact HQ.out
      have d1 : decide (128 ≤ (z : Int)) = false := decide_eq_false (by omega)
      have HS1 := HST.out wr z
      rw [show stopB z = false by cases hq : stopB z with | false => rfl | true => exact absurd (.inr hq) z1] at HS1
      by_cases z3 : z < 32
      · have d4 : decide ((z : Int) < 32) = true := decide_eq_true (by omega)
        have HK2 : Hid (R = RX.be (l ++ [execP z]) (k + 1) (escR m T (zs.drop (at0 + (k + 1))))) := Lib.hid (by
          rw [HD.out]
          conv => lhs; unfold escR
          rw [if_neg z1, if_pos z3, cons_be, be_be, HP.out]
          rfl)
        clear z1 z3 HD
        go_wp2_with (first
          | (go_at_call 37; (with_reducible refine HS1.mono ?_); rintro e w2 ⟨rfl, rfl⟩)
          | (go_at_call 26; (with_reducible refine (HEX.out wr z l hl1 HM.out).mono ?_); rintro e w3 ⟨rfl, hr3⟩; have HR3 := Lib.hid hr3; clear hr3))
        have hp := HP.out
        exact ⟨⟨k + 1, T, S, l ++ [execP z], by omega, by rw [hp]; go_num, rfl, by omega, by simp; omega, HS, HK2, Lib.hid HR3.out.1, Lib.hid (HB.out.trans HR3.out.2)⟩, by simp [intOf]; omega⟩
      have d4 : decide ((z : Int) < 32) = false := decide_eq_false (by omega)
      by_cases z2 : z = 127
      · have d3 : ((z : Int) == 127) = true := by simp; omega
        have HK2 : Hid (R = RX.be l (k + 1) (escR m T (zs.drop (at0 + (k + 1))))) := Lib.hid (by
          rw [HD.out]
          conv => lhs; unfold escR
          rw [if_neg z1, if_neg z3, if_pos z2, up_be, be_be, List.append_nil, HP.out]
          rfl)
        clear z1 z2 z3 HD
        go_wp2_with (go_at_call 37; (with_reducible refine HS1.mono ?_); rintro e w2 ⟨rfl, rfl⟩)
        have hp := HP.out
        exact ⟨⟨k + 1, T, S, l, by omega, by rw [hp]; go_num, rfl, by omega, by omega, HS, HK2, HM, HB⟩, by simp [intOf]; omega⟩
      have d3 : ((z : Int) == 127) = false := by simp; omega
      by_cases z4 : z < 48
      · have d5 : decide ((z : Int) < 48) = true := decide_eq_true (by omega)
        have hcv := conv_one wr (UInt8.ofNat z) z (by rw [u8n z hb8])
        have HS2 : Hid (S ++ bsB [UInt8.ofNat z] = bsB (T ++ [UInt8.ofNat z])) := Lib.hid (by rw [HS.out, bsB_app])
        have HK2 : Hid (R = RX.be l (k + 1) (escR m (T ++ [UInt8.ofNat z]) (zs.drop (at0 + (k + 1))))) := Lib.hid (by
          rw [HD.out]
          conv => lhs; unfold escR
          rw [if_neg z1, if_neg z3, if_neg z2, if_pos z4, up_be, be_be, List.append_nil, HP.out]
          rfl)
        have HM2 : Hid (RM (wr.alloc (.cells #[.int .u8 z] 5)) E (some ⟨b, off, none⟩) c zs m (es ++ l) 0 0) := Lib.hid (HM.out.past ((Below.refl _ _).alloc (Nat.le_refl _) _))
        have HB2 : Hid (Below E w (wr.alloc (.cells #[.int .u8 z] 5))) := Lib.hid (HB.out.trans ((Below.refl _ _).alloc (Nat.le_of_lt HM.out.lt) _))
        have hYS : (bsB [UInt8.ofNat z]).size = 1 := by rw [bsB_size]; rfl
        have hSS : S.size ≤ 1000 := by rw [HS.out, bsB_size]; omega
        generalize bsB [UInt8.ofNat z] = Y at *
        clear HS HM HB z1 z2 z3 z4 HD
        go_wp2_with (go_at_call 37; (with_reducible refine HS1.mono ?_); rintro e w2 ⟨rfl, rfl⟩)
        have hp := HP.out
        exact ⟨⟨k + 1, _, _, l, by omega, by rw [hp]; go_num, rfl, by simp; omega, by omega, HS2, HK2, HM2, HB2⟩, by simp [intOf]; omega⟩
      have d5 : decide ((z : Int) < 48) = false := decide_eq_false (by omega)
      by_cases z5 : T = []
      · have HK2 : Hid (R = RX.be l (k + 1) (lastR m z (zs.drop (p + 1)))) := Lib.hid (by
          rw [HD.out]
          conv => lhs; unfold escR
          rw [if_neg z1, if_neg z3, if_neg z2, if_neg z4, if_pos z5, up_be, be_be, List.append_nil])
        have hS0 : S = ⟨#[]⟩ := by rw [HS.out, z5]; rfl
        subst hS0
        clear z1 z2 z3 z4 z5 HD HS
        go_wp2_with (first
          | (go_at_call 37; (with_reducible refine HS1.mono ?_); rintro e w2 ⟨rfl, rfl⟩)
          | (go_at_call 29; (with_reducible refine (HLA.out wr z l _ (p + 1) (by push_cast; rfl) (by omega) hl1 HM.out).mono ?_); rintro e w3 ⟨rfl, hr3⟩; have HR3 := Lib.hid hr3; clear hr3))
        go_ret
        refine ⟨?_, ?_, HB.out.trans HR3.out.2⟩
        · rw [HK2.out]
          unfold RX.be
          show Ending.returned (.int .i64 ((p + 1 + _ : Nat) : Int)) = _
          rw [HP.out, show at0 + k + 1 + (lastR m (z : Int) (zs.drop (at0 + k + 1))).n = at0 + (k + 1 + (lastR m (z : Int) (zs.drop (at0 + k + 1))).n) by omega]
        · rw [HK2.out]
          unfold RX.be
          show RM w3 _ _ _ _ _ (es ++ (l ++ _)) _ _
          rw [← List.append_assoc]
          exact HR3.out.1
      · have hR1 : R = RX.be l k ⟨if T.length ≤ 2 then [escPE z T] else [], 0, 0, 1⟩ := by
          rw [HD.out]
          conv => lhs; unfold escR
          rw [if_neg z1, if_neg z3, if_neg z2, if_neg z4, if_neg z5]
        have hse : S.toList.isEmpty = false := by
          rw [HS.out]
          cases T with
          | nil => exact absurd rfl z5
          | cons y t => simp [bsB, Lib.toList_data]
        have hsz : S.size = T.length := by rw [HS.out, bsB_size]
        have HR1 := Lib.hid hR1
        clear hR1 HD z1 z2 z3 z4 z5
        by_cases z6 : T.length ≤ 2
        · rw [if_pos z6] at HR1
          have d6 : (S.size : Int) ≤ 2 := by omega
          have HES1 := HES.out wr z T l hl1 HM.out
          rw [← HS.out] at HES1
          have HES2 := Lib.hid HES1
          clear HES1 hsz z6
          go_wp2_with (first
            | (go_at_call 37; (with_reducible refine HS1.mono ?_); rintro e w2 ⟨rfl, rfl⟩)
            | (go_at_call 26; (with_reducible refine HES2.out.mono ?_); rintro e w3 ⟨rfl, hr3⟩; have HR3 := Lib.hid hr3; clear hr3))
          go_ret
          refine ⟨?_, by rw [HR1.out]; exact HR3.out.1, HB.out.trans HR3.out.2⟩
          rw [HR1.out]
          unfold RX.be
          show Ending.returned (.int .i64 ((p : Int) + 1)) = _
          rw [HP.out]
          push_cast
          rw [Int.add_assoc]
        · rw [if_neg z6] at HR1
          have d6 : ¬ (S.size : Int) ≤ 2 := by omega
          clear hsz z6
          go_wp2_with (go_at_call 37; (with_reducible refine HS1.mono ?_); rintro e w2 ⟨rfl, rfl⟩)
          go_ret
          refine ⟨?_, ?_, HB.out⟩
          · rw [HR1.out]
            unfold RX.be
            show Ending.returned (.int .i64 ((p : Int) + 1)) = _
            rw [HP.out]
            push_cast
            rw [Int.add_assoc]
          · rw [HR1.out]
            unfold RX.be
            rw [List.append_nil]
            exact HM.out
    · have hlti : ¬ ((at0 + k : Nat) : Int) < n := by omega
      have hkn : at0 + k = n := by omega
      have hR1 : R = ⟨l, 1, if T.length ≤ 2 then T.length else 0, k⟩ := by
        have e0 : zs.drop (at0 + k) = [] := List.drop_of_length_le (by rw [← HNZ.out]; omega)
        rw [HK.out, e0]
        unfold escR RX.be
        rw [List.append_nil]
        rfl
      have HKN := Lib.hid hkn
      have hsz : S.size = T.length := by rw [HS.out, bsB_size]
      have HR1 := Lib.hid hR1
      clear hR1 HK HR hlt
      rw [hkn] at hlti
      rw [hkn]
      have k1 := HM.out.c1
      have f1 := HM.out.free 1
      obtain ⟨q1, q2⟩ := HM.out.setSt 1
      by_cases z6 : T.length ≤ 2
      · rw [if_pos z6] at HR1
        have d6 : (S.size : Int) ≤ 2 := by omega
        obtain ⟨q3, q4⟩ := q1.setHd T.length
        rw [← hsz] at q3 q4 HR1
        have k2 := q1.c2
        have f2 := q1.free 2
        have HQ : Hid (RQ E A c zs m es at0 R w (.returned (.int .i64 n)) ((wr.setCell ⟨E, 1, none⟩ (.int .i64 1)).setCell ⟨E, 2, none⟩ (.int .i64 S.size))) := Lib.hid (by
          rw [HR1.out]
          exact ⟨by rw [← HKN.out], q3, HB.out.trans (q2.trans q4)⟩)
        clear q1 q2 q3 q4 hsz z6
        go_wp2
        go_ret
        exact HQ.out
      · rw [if_neg z6] at HR1
        have d6 : ¬ (S.size : Int) ≤ 2 := by omega
        have HQ : Hid (RQ E A c zs m es at0 R w (.returned (.int .i64 n)) (wr.setCell ⟨E, 1, none⟩ (.int .i64 1))) := Lib.hid (by
          rw [HR1.out]
          exact ⟨by rw [← HKN.out], q1, HB.out.trans q2⟩)
        clear q1 q2 hsz z6
        go_wp2
        go_ret
        exact HQ.out

end Go.Proofs.YtmmkcfjncpcabaaDoor

namespace Go.Proofs.YtmmkcfjncpcabaaDoor
open Go.RowKit Go.Shelf

theorem size_yes {zs : List Nat} {m : Nat} (h1 : 1 ≤ m) (h3 : m ≤ 3) (hl : m ≤ zs.length) (h : fullB (zs.take m) = false) : sizeF zs m = m := by
  rcases (by omega : m = 1 ∨ m = 2 ∨ m = 3) with rfl | rfl | rfl
  · simp [sizeF]
  · simp [sizeF, h, hl]
  · simp [sizeF, h, hl]
theorem size_no {zs : List Nat} {m : Nat} (h3 : m ≤ 2) (h : fullB (zs.take (m + 1)) = true) : sizeF zs (m + 1) = sizeF zs m := by
  rcases (by omega : m = 0 ∨ m = 1 ∨ m = 2) with rfl | rfl | rfl
  · simp [sizeF]
  · simp [sizeF, h]
  · simp [sizeF, h]
theorem size_end {zs : List Nat} {m : Nat} (h : 3 ≤ m ∨ zs.length ≤ m) : sizeF zs m = begF zs := by
  rw [← size_beg]
  unfold sizeF
  have e3 : (3 ≤ m ∧ 3 ≤ zs.length ∧ fullB (zs.take 3) = false) ↔ (3 ≤ 3 ∧ 3 ≤ zs.length ∧ fullB (zs.take 3) = false) := by
    constructor <;> (rintro ⟨a, b, c⟩; exact ⟨by omega, b, c⟩)
  have e2 : (2 ≤ m ∧ 2 ≤ zs.length ∧ fullB (zs.take 2) = false) ↔ (2 ≤ 3 ∧ 2 ≤ zs.length ∧ fullB (zs.take 2) = false) := by
    constructor <;> (rintro ⟨a, b, c⟩; exact ⟨by omega, b, c⟩)
  simp only [e3, e2]
theorem size_0 (zs : List Nat) : sizeF zs 0 = 1 := by simp [sizeF]

def OnePost (zs : List Nat) (w : World) (e : Ending) (w' : World) : Prop :=
  e = .returned (.tuple #[.int .i32 (firstF zs).1, .int .i64 (firstF zs).2]) ∧ Below w.heap.size w w'

set_option maxRecDepth 100000 in
set_option maxHeartbeats 4000000 in
theorem one_any (b off : Nat) (zs : List Nat) (n c : Nat) (hn : n = zs.length) (h0 : 0 < n) (hcap : n ≤ c) (w : World) (hR : BS w w.heap.size (some ⟨b, off, none⟩) zs) :
    Calls Tryd.prog 27 #[.slice (some ⟨b, off, none⟩) n c] w (OnePost zs w) := by
  have hne : zs ≠ [] := by rintro rfl; simp at hn; omega
  have HIs : Hid (∀ (m : Nat) (W : World), m ≤ n → Below w.heap.size w W → Calls Tryd.prog 38 #[.slice (some ⟨b, off, none⟩) m c] W fun e w' => e = .returned (.bool (isB (zs.take m))) ∧ Below W.heap.size W w') := Lib.hid fun m W hm hW =>
    is_any _ (zs.take m) m c (by rw [List.length_take]; omega) W (((hR.take m).below hW).more hW.size)
  have HNum : Hid (∀ (m : Nat) (W : World), m ≤ n → Below w.heap.size w W → Calls Tryd.prog 39 #[.slice (some ⟨b, off, none⟩) m c] W fun e w' => e = .returned (.int .i32 (numZ_u (zs.take m))) ∧ Below W.heap.size W w') := Lib.hid fun m W hm hW =>
    number_any_u _ (zs.take m) m c (by rw [List.length_take]; omega) W (((hR.take m).below hW).more hW.size)
  have HBeg : Hid (∀ (m : Nat) (W : World), 1 ≤ m → m ≤ 3 → m ≤ n → Below w.heap.size w W → Calls Tryd.prog 28 #[.slice (some ⟨b, off, none⟩) m c] W fun e w' => e = .returned (.bool (!fullB (zs.take m))) ∧ Below W.heap.size W w') := Lib.hid fun m W h1 h3 hm hW => by
    have h8 : ∀ z ∈ zs.take m, z < 256 := fun z hz => hR.1 z (List.mem_of_mem_take hz)
    have hl : m = (zs.take m).length := by rw [List.length_take]; omega
    have hz : zs.take m ≠ [] := by intro e; rw [e] at hl; simp at hl; omega
    rw [← beg_full _ h8 hz]
    exact begins_any_u b off (zs.take m) m c hl (by omega) h3 W (((hR.take m).below hW).more hW.size)
  have H8 : Hid (∀ z ∈ zs, z < 256) := Lib.hid hR.1
  have HN := Lib.hid hn
  have HNE := Lib.hid hne
  clear hR hn hne
  unfold OnePost
  go_enter Tryd.func27, Tryd.ntmps27
  go_wp2
  go_loopw [4] (fun i wr => ∃ m : Nat, 1 ≤ m ∧ m ≤ 5 ∧ i = .int .i64 m ∧ Hid (∀ j, 1 ≤ j → j < m → j ≤ n → isB (zs.take j) = false) ∧ Hid (Below w.heap.size w wr)) (fun i _ => 5 - (intOf i).toNat)
  case atStart => exact ⟨1, by omega, by omega, rfl, Lib.hid (fun j h1 h2 => by omega), Lib.hid (Below.refl _ _)⟩
  case round =>
    obtain ⟨m, hm1, hm5, rfl, HK, HB⟩ := hrel
    by_cases hc : m ≤ 4 ∧ m ≤ n
    · obtain ⟨hm4, hmn⟩ := hc
      have hi := HIs.out m wr hmn HB.out
      have hm4' : (m : Int) ≤ 4 := by omega
      have hmn' : (m : Int) ≤ n := by omega
      have hmc' : (m : Int) ≤ c := by omega
      have hmc : m ≤ c := by omega
      cases hq : isB (zs.take m) with
      | true =>
        have HF : Hid (firstF zs = ((numZ_u (zs.take m)).toNat, m)) := Lib.hid (first_is zs m (by rw [← HN.out]; exact hmn) hq)
        have HZ : Hid (((numZ_u (zs.take m)).toNat : Int) = numZ_u (zs.take m)) := Lib.hid (Int.toNat_of_nonneg (scalarB_bd (is_some hq).1).1)
        have HM := Lib.hid (fun W hW => HNum.out m W hmn hW)
        rw [hq] at hi
        clear hq
        generalize numZ_u (zs.take m) = z at *
        go_wp2_with (first | (go_at_call 38; (with_reducible refine hi.mono ?_); clear hi; rintro e w8 ⟨rfl, hb8⟩; have HB8 := Lib.hid (bel0 HB.out hb8)) | (go_at_call 39; (with_reducible refine (HM.out _ HB8.out).mono ?_); rintro e w9 ⟨rfl, hb9⟩))
        go_ret2
        refine ⟨?_, bel0 HB8.out hb9⟩
        rw [HF.out]
        dsimp only
        rw [HZ.out]
        rfl
      | false =>
        have HK' : Hid (∀ j, 1 ≤ j → j < m + 1 → j ≤ n → isB (zs.take j) = false) := Lib.hid fun j h1 h2 h3 => by
          rcases Nat.lt_or_ge j m with h | h
          · exact HK.out j h1 h h3
          · obtain rfl : j = m := by omega
            exact hq
        rw [hq] at hi
        clear hq
        go_wp2_with (go_at_call 38; (with_reducible refine hi.mono ?_); clear hi; rintro e w8 ⟨rfl, hb8⟩; have HB8 := Lib.hid (bel0 HB.out hb8))
        go_roundw
        case rel => exact ⟨m + 1, by omega, by omega, by go_num, HK', HB8⟩
        case measure => simp [intOf]; omega
    · have HF : Hid (firstF zs = (65533, begF zs)) := Lib.hid (first_not zs H8.out HNE.out fun j h1 h2 h3 => HK.out j h1 (by rw [← HN.out] at h3; omega) (by rw [HN.out]; exact h3))
      clear HK HIs HNum
      rcases (by omega : 4 < m ∨ (m ≤ 4 ∧ n < m)) with h4 | ⟨h4, h5⟩
      · have h4' : ¬ (m : Int) ≤ 4 := by omega
        have hd4 : decide ((m : Int) ≤ 4) = false := decide_eq_false h4'
        clear hc
        obtain ⟨wo, rfl⟩ : ∃ wo : World, wo = wr := ⟨_, rfl⟩
        go_wp2
        go_loopw [5, 6] (fun s i wr => ∃ (q z : Nat), 1 ≤ q ∧ q ≤ 4 ∧ i = .int .i64 q ∧ s = .int .i64 z ∧ Hid (z = sizeF zs (q - 1)) ∧ Hid (Below w.heap.size w wr)) (fun _ i _ => 5 - (intOf i).toNat)
        case atStart => exact ⟨1, 1, by omega, by omega, rfl, rfl, Lib.hid (size_0 zs).symm, HB⟩
        case round =>
          obtain ⟨q, z, hq1, hq4, rfl, rfl, HZ, HBW⟩ := hrel
          rcases (by omega : (q ≤ 3 ∧ q ≤ n) ∨ 3 < q ∨ (q ≤ 3 ∧ n < q)) with ⟨hq3, hqn⟩ | h3 | ⟨hq3, hqn⟩
          · have hi := HBeg.out q wr hq1 hq3 hqn HBW.out
            have hm4' : (q : Int) ≤ 3 := by omega
            have hmn' : (q : Int) ≤ n := by omega
            have hmc' : (q : Int) ≤ c := by omega
            have hmc : q ≤ c := by omega
            cases hf : fullB (zs.take q) with
            | false =>
              have HS : Hid (q = sizeF zs (q + 1 - 1)) := Lib.hid (by rw [Nat.add_sub_cancel]; exact (size_yes hq1 hq3 (by rw [← HN.out]; exact hqn) hf).symm)
              rw [hf] at hi
              clear hf
              rw [show (!false) = true from rfl] at hi
              go_wp2_with (go_at_call 28; (with_reducible refine hi.mono ?_); clear hi; rintro e w8 ⟨rfl, hb8⟩; have HB8 := Lib.hid (bel0 HBW.out hb8))
              go_roundw
              case rel => exact ⟨q + 1, q, by omega, by omega, by go_num, rfl, HS, HB8⟩
              case measure => simp [intOf]; omega
            | true =>
              have HS : Hid (z = sizeF zs (q + 1 - 1)) := Lib.hid (by
                rw [HZ.out, Nat.add_sub_cancel]
                have := size_no (zs := zs) (m := q - 1) (by omega) (by rw [show q - 1 + 1 = q by omega]; exact hf)
                rw [show q - 1 + 1 = q by omega] at this
                exact this.symm)
              rw [hf] at hi
              clear hf
              rw [show (!true) = false from rfl] at hi
              go_wp2_with (go_at_call 28; (with_reducible refine hi.mono ?_); clear hi; rintro e w8 ⟨rfl, hb8⟩; have HB8 := Lib.hid (bel0 HBW.out hb8))
              go_roundw
              case rel => exact ⟨q + 1, z, by omega, by omega, by go_num, rfl, HS, HB8⟩
              case measure => simp [intOf]; omega
          · have HE : Hid (z = begF zs) := Lib.hid (HZ.out.trans (size_end (.inl (by omega))))
            have hd : decide ((q : Int) ≤ 3) = false := decide_eq_false (by omega)
            have h3' : ¬ (q : Int) ≤ 3 := by omega
            go_wp2
            go_ret2
            exact ⟨by rw [HF.out, ← HE.out]; rfl, HBW.out⟩
          · have HE : Hid (z = begF zs) := Lib.hid (HZ.out.trans (size_end (.inr (by rw [← HN.out]; omega))))
            have hd : decide ((q : Int) ≤ 3) = true := decide_eq_true (by omega)
            have hd' : decide ((q : Int) ≤ n) = false := decide_eq_false (by omega)
            have h3' : ¬ (q : Int) ≤ n := by omega
            go_wp2
            go_ret2
            exact ⟨by rw [HF.out, ← HE.out]; rfl, HBW.out⟩
      · have h4' : (m : Int) ≤ 4 := by omega
        have h5' : ¬ (m : Int) ≤ n := by omega
        have hd5 : decide ((m : Int) ≤ n) = false := decide_eq_false h5'
        clear hc
        obtain ⟨wo, rfl⟩ : ∃ wo : World, wo = wr := ⟨_, rfl⟩
        go_wp2
        go_loopw [5, 6] (fun s i wr => ∃ (q z : Nat), 1 ≤ q ∧ q ≤ 4 ∧ i = .int .i64 q ∧ s = .int .i64 z ∧ Hid (z = sizeF zs (q - 1)) ∧ Hid (Below w.heap.size w wr)) (fun _ i _ => 5 - (intOf i).toNat)
        case atStart => exact ⟨1, 1, by omega, by omega, rfl, rfl, Lib.hid (size_0 zs).symm, HB⟩
        case round =>
          obtain ⟨q, z, hq1, hq4, rfl, rfl, HZ, HBW⟩ := hrel
          rcases (by omega : (q ≤ 3 ∧ q ≤ n) ∨ 3 < q ∨ (q ≤ 3 ∧ n < q)) with ⟨hq3, hqn⟩ | h3 | ⟨hq3, hqn⟩
          · have hi := HBeg.out q wr hq1 hq3 hqn HBW.out
            have hm4' : (q : Int) ≤ 3 := by omega
            have hmn' : (q : Int) ≤ n := by omega
            have hmc' : (q : Int) ≤ c := by omega
            have hmc : q ≤ c := by omega
            cases hf : fullB (zs.take q) with
            | false =>
              have HS : Hid (q = sizeF zs (q + 1 - 1)) := Lib.hid (by rw [Nat.add_sub_cancel]; exact (size_yes hq1 hq3 (by rw [← HN.out]; exact hqn) hf).symm)
              rw [hf] at hi
              clear hf
              rw [show (!false) = true from rfl] at hi
              go_wp2_with (go_at_call 28; (with_reducible refine hi.mono ?_); clear hi; rintro e w8 ⟨rfl, hb8⟩; have HB8 := Lib.hid (bel0 HBW.out hb8))
              go_roundw
              case rel => exact ⟨q + 1, q, by omega, by omega, by go_num, rfl, HS, HB8⟩
              case measure => simp [intOf]; omega
            | true =>
              have HS : Hid (z = sizeF zs (q + 1 - 1)) := Lib.hid (by
                rw [HZ.out, Nat.add_sub_cancel]
                have := size_no (zs := zs) (m := q - 1) (by omega) (by rw [show q - 1 + 1 = q by omega]; exact hf)
                rw [show q - 1 + 1 = q by omega] at this
                exact this.symm)
              rw [hf] at hi
              clear hf
              rw [show (!true) = false from rfl] at hi
              go_wp2_with (go_at_call 28; (with_reducible refine hi.mono ?_); clear hi; rintro e w8 ⟨rfl, hb8⟩; have HB8 := Lib.hid (bel0 HBW.out hb8))
              go_roundw
              case rel => exact ⟨q + 1, z, by omega, by omega, by go_num, rfl, HS, HB8⟩
              case measure => simp [intOf]; omega
          · have HE : Hid (z = begF zs) := Lib.hid (HZ.out.trans (size_end (.inl (by omega))))
            have hd : decide ((q : Int) ≤ 3) = false := decide_eq_false (by omega)
            have h3' : ¬ (q : Int) ≤ 3 := by omega
            go_wp2
            go_ret2
            exact ⟨by rw [HF.out, ← HE.out]; rfl, HBW.out⟩
          · have HE : Hid (z = begF zs) := Lib.hid (HZ.out.trans (size_end (.inr (by rw [← HN.out]; omega))))
            have hd : decide ((q : Int) ≤ 3) = true := decide_eq_true (by omega)
            have hd' : decide ((q : Int) ≤ n) = false := decide_eq_false (by omega)
            have h3' : ¬ (q : Int) ≤ n := by omega
            go_wp2
            go_ret2
            exact ⟨by rw [HF.out, ← HE.out]; rfl, HBW.out⟩

end Go.Proofs.YtmmkcfjncpcabaaDoor

namespace Go.Proofs.YtmmkcfjncpcabaaDoor
open Go.RowKit

theorem RO.rm {E : Nat} {A : Option Addr} {c : Nat} {zs : List Nat} {m : Nat} {es : List PE} {st : Int} {hd : Nat} {w w' : World} (h : RO E A c zs m es st hd w w') : RM w' E A c zs m es st hd := h.1
set_option maxRecDepth 100000 in
theorem begins_four (A : Option Addr) (c : Nat) (w : World) : Calls Tryd.prog 28 #[.slice A 4 c] w fun e w' => e = .returned (.bool false) ∧ Below w.heap.size w w' := by
  go_enter Tryd.func28, Tryd.ntmps28
  go_wp2
  go_loopw [3] (fun i wr => i = .int .i64 5 ∧ wr = w) (fun _ _ => 0)
  case atStart => exact ⟨rfl, rfl⟩
  case round =>
    obtain ⟨rfl, rfl⟩ := hrel
    go_wp2
    go_ret
    exact ⟨rfl, Below.refl _ _⟩
theorem begins_len (b off : Nat) (zs : List Nat) (n c : Nat) (hn : n = zs.length) (h0 : 0 < n) (h4 : n ≤ 4) (w : World) (hR : BS w w.heap.size (some ⟨b, off, none⟩) zs) :
    Calls Tryd.prog 28 #[.slice (some ⟨b, off, none⟩) n c] w fun e w' => e = .returned (.bool (!fullB zs)) ∧ Below w.heap.size w w' := by
  rcases Nat.lt_or_ge n 4 with h | h
  · have := begins_any_u b off zs n c hn h0 (by omega) w hR
    rw [beg_full zs hR.1 (by rintro rfl; simp at hn; omega)] at this
    exact this
  · have hf : fullB zs = true := by
      have := full4 zs (by omega)
      rw [List.take_of_length_le (by omega)] at this
      exact this
    obtain rfl : n = 4 := by omega
    rw [hf]
    exact begins_four _ c w
set_option maxRecDepth 100000 in
set_option maxHeartbeats 16000000 in
theorem rest_any (w : World) (E : Nat) (A : Option Addr) (c : Nat) (zs : List Nat) (m : Nat) (es : List PE) (at0 : Nat) (st : Int) (hd : Nat) (h : RM w E A c zs m es st hd) (hc : zs.length ≤ c) (hat : at0 < zs.length) (hz : zs.length ≤ 1000) (hn : es.length ≤ 10000) :
    Calls Tryd.prog 20 #[.pointer (some ⟨E, 0, none⟩), .int .i64 at0] w (RQ E A c zs m es at0 (restR m (zs.drop at0)) w) := by
  obtain ⟨b, off, hA, hb, hb8⟩ := h.byte at0 hat
  subst hA
  have k1 := h.c1
  have k2 := h.c2
  have f1 := h.free 1
  have f2 := h.free 2
  obtain ⟨q1, q2⟩ := h.setSt 0
  obtain ⟨q3, q4⟩ := q1.setHd 0
  have HB0 : Hid (Below E w ((w.setCell ⟨E, 1, none⟩ (.int .i64 0)).setCell ⟨E, 2, none⟩ (.int .i64 0))) := Lib.hid (q2.trans q4)
  have HM : Hid (RM ((w.setCell ⟨E, 1, none⟩ (.int .i64 0)).setCell ⟨E, 2, none⟩ (.int .i64 0)) E (some ⟨b, off, none⟩) c zs m es 0 0) := Lib.hid q3
  have hbE : ¬ b = E := by
    obtain ⟨b', off', e, hlt, _⟩ := h.bs.2 (by rintro rfl; simp at hat)
    injection e with e
    injection e with e1 e2 _
    omega
  have hlen : (zs.drop at0).length = zs.length - at0 := List.length_drop
  obtain ⟨n, hnz⟩ : ∃ n, n = zs.length := ⟨_, rfl⟩
  have HNZ := Lib.hid hnz
  have HCC := Lib.hid hc
  have HZZ := Lib.hid hz
  have hc3 := h.c3
  rw [← hnz] at hc hat hz hlen hc3
  clear hnz
  have HXS : Hid (zs.drop at0 = zs[at0]?.getD 0 :: zs.drop (at0 + 1)) := Lib.hid (drop_at zs at0 (by rw [← HNZ.out]; exact hat))
  have hne : ¬ c = at0 := by omega
  have HBS : Hid (∀ W, RM W E (some ⟨b, off, none⟩) c zs m es 0 0 → BS W W.heap.size (some ⟨b, off + at0, none⟩) (zs.drop at0)) := Lib.hid fun W hM => (hM.bs.drop at0 (off + at0) (fun _ => rfl)).more (Nat.le_of_lt hM.lt)
  have HON : Hid (∀ W, RM W E (some ⟨b, off, none⟩) c zs m es 0 0 → Calls Tryd.prog 27 #[.slice (some ⟨b, off + at0, none⟩) (n - at0) (c - at0)] W fun e w' => e = .returned (.tuple #[.int .i32 (firstF (zs.drop at0)).1, .int .i64 (firstF (zs.drop at0)).2]) ∧ Below W.heap.size W w') := Lib.hid fun W hM => one_any b (off + at0) (zs.drop at0) (n - at0) (c - at0) hlen.symm (by omega) (by omega) W (HBS.out W hM)
  have HBG : Hid (∀ W, RM W E (some ⟨b, off, none⟩) c zs m es 0 0 → n - at0 ≤ 4 → Calls Tryd.prog 28 #[.slice (some ⟨b, off + at0, none⟩) (n - at0) (c - at0)] W fun e w' => e = .returned (.bool (!fullB (zs.drop at0))) ∧ Below W.heap.size W w') := Lib.hid fun W hM h4 => begins_len b (off + at0) (zs.drop at0) (n - at0) (c - at0) hlen.symm (by omega) h4 W (HBS.out W hM)
  have HES : Hid (∀ W (q : Int) (p : Nat), q = (p : Nat) → p ≤ n → RM W E (some ⟨b, off, none⟩) c zs m es 0 0 → Calls Tryd.prog 25 #[.pointer (some ⟨E, 0, none⟩), .int .i64 q] W (RQ E (some ⟨b, off, none⟩) c zs m es p (escR m [] (zs.drop p)) W)) := Lib.hid fun W q p hq hp hM => by
    rw [hq]
    exact escape_any W E _ c zs m es p hM HCC.out (by rw [← HNZ.out]; exact hp) HZZ.out (by omega)
  have HLA : Hid (∀ W (x q : Int) (p : Nat), q = (p : Nat) → p ≤ n → RM W E (some ⟨b, off, none⟩) c zs m es 0 0 → Calls Tryd.prog 29 #[.pointer (some ⟨E, 0, none⟩), .int .i64 q, .int .u8 x] W (RQ E (some ⟨b, off, none⟩) c zs m es p (lastR m x (zs.drop p)) W)) := Lib.hid fun W x q p hq hp hM => by
    rw [hq]
    exact last_any W E _ c zs m es p x hM HCC.out (by rw [← HNZ.out]; exact hp) HZZ.out (by omega)
  have HEX : Hid (∀ W (z : Nat), RM W E (some ⟨b, off, none⟩) c zs m es 0 0 → Calls Tryd.prog 26 #[.pointer (some ⟨E, 0, none⟩), .agg #[.int .i64 1, .int .i32 0, .int .u8 z, .int .u8 0, .slice none 0 0, .string ⟨#[]⟩, .string ⟨#[]⟩, .bool false]] W fun en w' => en = .returned (.tuple #[]) ∧ RO E (some ⟨b, off, none⟩) c zs m (es ++ [execP z]) 0 0 W w') := Lib.hid fun W z hM => add_any W E _ c zs m es 0 0 (execE z) _ hM (exec_ok W z) (by omega)
  have HPR : Hid (∀ W (r : Nat), RM W E (some ⟨b, off, none⟩) c zs m es 0 0 → Calls Tryd.prog 26 #[.pointer (some ⟨E, 0, none⟩), .agg #[.int .i64 0, .int .i32 r, .int .u8 0, .int .u8 0, .slice none 0 0, .string ⟨#[]⟩, .string ⟨#[]⟩, .bool false]] W fun en w' => en = .returned (.tuple #[]) ∧ RO E (some ⟨b, off, none⟩) c zs m (es ++ [printP r]) 0 0 W w') := Lib.hid fun W r hM => add_any W E _ c zs m es 0 0 ⟨0, r, 0, 0, .slice none 0 0, ⟨#[]⟩, ⟨#[]⟩, false⟩ _ hM ⟨rfl, rfl, rfl, rfl, rfl, rfl, rfl, none, 0, rfl, rg_nil W⟩ (by omega)
  have hfb := firstF_bd (zs.drop at0) (by omega)
  obtain ⟨R, hR⟩ : ∃ R, R = restR m (zs.drop at0) := ⟨_, rfl⟩
  have hR0 : R = if zs[at0]?.getD 0 = 27 then (escR m [] (zs.drop (at0 + 1))).up 1 else if zs[at0]?.getD 0 < 32 then ⟨[execP (zs[at0]?.getD 0)], 0, 0, 1⟩ else if (firstF (zs.drop at0)).2 = n - at0 ∧ fullB (zs.drop at0) = false then ⟨[], 0, (firstF (zs.drop at0)).2, n - at0⟩
      else if (firstF (zs.drop at0)).1 = 127 then ⟨[], 0, 0, (firstF (zs.drop at0)).2⟩ else if 128 ≤ (firstF (zs.drop at0)).1 ∧ (firstF (zs.drop at0)).1 ≤ 159 then (lastR m (((firstF (zs.drop at0)).1 : Int) - 64) (zs.drop (at0 + (firstF (zs.drop at0)).2))).up (firstF (zs.drop at0)).2 else ⟨[printP (firstF (zs.drop at0)).1], 0, 0, (firstF (zs.drop at0)).2⟩ := by
    rw [hR]
    unfold restR
    simp only [hlen, List.drop_drop]
    rw [HXS.out]
    simp only [List.getElem?_cons_zero, Option.getD_some, List.tail_cons]
  rw [← hR]
  have HR := Lib.hid hR0
  clear hR hR0 HBS HXS q1 q2 q3 q4 h
  generalize zs[at0]?.getD 0 = z at *
  rw [hlen] at hfb
  generalize fullB (zs.drop at0) = fl at *
  generalize firstF (zs.drop at0) = f at *
  obtain ⟨r, s⟩ := f
  simp only at HON HR hfb
  clear hlen
  by_cases z1 : z = 27
  · have e1 : R = RX.be [] 1 (escR m [] (zs.drop (at0 + 1))) := by rw [HR.out, if_pos z1, up_be]
    have HR1 := Lib.hid e1
    have d1 : ((z : Int) == 27) = true := by simp; omega
    clear z1 e1
    go_enter Tryd.func20, Tryd.ntmps20
    go_wp2_with (go_at_call 25; (with_reducible refine (HES.out _ _ (at0 + 1) (by push_cast; rfl) (by omega) HM.out).mono ?_); rintro e w3 ⟨rfl, hr3⟩; have HR3 := Lib.hid hr3; clear hr3)
    go_ret
    refine ⟨?_, ?_, HB0.out.trans HR3.out.2⟩
    · rw [HR1.out]
      unfold RX.be
      show Ending.returned (.int .i64 ((at0 + 1 + _ : Nat) : Int)) = _
      rw [Nat.add_assoc]
    · rw [HR1.out]
      exact HR3.out.1
  have d1 : ((z : Int) == 27) = false := by simp; omega
  by_cases z2 : z < 32
  · have e1 : R = ⟨[execP z], 0, 0, 1⟩ := by rw [HR.out, if_neg z1, if_pos z2]
    have HR1 := Lib.hid e1
    have d2 : (z : Int) < 32 := by omega
    clear z1 z2 e1
    go_enter Tryd.func20, Tryd.ntmps20
    go_wp2_with (go_at_call 26; (with_reducible refine (HEX.out _ z HM.out).mono ?_); rintro e w3 ⟨rfl, hr3⟩; have HR3 := Lib.hid hr3; clear hr3)
    go_ret
    rw [HR1.out]
    exact ⟨rfl, HR3.out.1, HB0.out.trans HR3.out.2⟩
  have d2 : ¬ (z : Int) < 32 := by omega
  have e1 : R = if s = n - at0 ∧ fl = false then ⟨[], 0, s, n - at0⟩ else if r = 127 then ⟨[], 0, 0, s⟩ else if 128 ≤ r ∧ r ≤ 159 then (lastR m ((r : Int) - 64) (zs.drop (at0 + s))).up s else ⟨[printP r], 0, 0, s⟩ := by rw [HR.out, if_neg z1, if_neg z2]
  have HR1 := Lib.hid e1
  clear e1 HR z1 z2
  have HON1 : Hid (∀ W, W = ((w.setCell ⟨E, 1, none⟩ (.int .i64 0)).setCell ⟨E, 2, none⟩ (.int .i64 0)) → Calls Tryd.prog 27 #[.slice (some ⟨b, off + at0, none⟩) (n - at0) (c - at0)] W fun e w' => e = .returned (.tuple #[.int .i32 r, .int .i64 s]) ∧ RO E (some ⟨b, off, none⟩) c zs m es 0 0 w w' ∧ w'.cell? ⟨E, 3, none⟩ = some (.slice (some ⟨b, off, none⟩) n c) ∧ w'.cell? ⟨E, 2, none⟩ = some (.int .i64 0) ∧ w'.frozen? ⟨E, 2, none⟩ = false) := Lib.hid fun W hW => by
    subst hW
    refine (HON.out _ HM.out).mono fun e w' ⟨he, hb⟩ => ?_
    have hm := HM.out.past hb
    exact ⟨he, ⟨hm, HB0.out.trans (hb.mono (Nat.le_of_lt HM.out.lt))⟩, by rw [HNZ.out]; exact hm.c3, hm.c2, hm.free 2⟩
  have HBG1 : Hid (∀ W, n - at0 ≤ 4 → RO E (some ⟨b, off, none⟩) c zs m es 0 0 w W → Calls Tryd.prog 28 #[.slice (some ⟨b, off + at0, none⟩) (n - at0) (c - at0)] W fun e w' => e = .returned (.bool (!fl)) ∧ RO E (some ⟨b, off, none⟩) c zs m es 0 0 w w' ∧ w'.cell? ⟨E, 3, none⟩ = some (.slice (some ⟨b, off, none⟩) n c) ∧ w'.cell? ⟨E, 2, none⟩ = some (.int .i64 0) ∧ w'.frozen? ⟨E, 2, none⟩ = false) := Lib.hid fun W h4 hM => by
    refine (HBG.out W hM.1 h4).mono fun e w' ⟨he, hb⟩ => ?_
    have hm := hM.1.past hb
    exact ⟨he, ⟨hm, hM.2.trans (hb.mono (Nat.le_of_lt hM.1.lt))⟩, by rw [HNZ.out]; exact hm.c3, hm.c2, hm.free 2⟩
  clear HON HBG
  by_cases z3 : s = n - at0 ∧ fl = false
  · rw [if_pos z3] at HR1
    obtain ⟨z3, z4⟩ := z3
    subst z4
    have hq : ((at0 : Int) + s == n) = true := by simp; omega
    have h4 : n - at0 ≤ 4 := by omega
    have HQ : Hid (∀ W, RO E (some ⟨b, off, none⟩) c zs m es 0 0 w W → RQ E (some ⟨b, off, none⟩) c zs m es at0 R w (.returned (.int .i64 n)) (W.setCell ⟨E, 2, none⟩ (.int .i64 s))) := Lib.hid fun W h => by
      obtain ⟨q1, q2⟩ := h.1.setHd s
      rw [HR1.out]
      exact ⟨by simp; omega, by rw [List.append_nil]; exact q1, h.2.trans q2⟩
    clear z3
    go_enter Tryd.func20, Tryd.ntmps20
    go_wp2_with (first
      | (go_at_call 27; (with_reducible refine (HON1.out _ rfl).mono ?_); rintro e w3 ⟨rfl, hm3, x3, x2, xf⟩; have HM3 := Lib.hid hm3; clear hm3)
      | (go_at_call 28; (with_reducible refine (HBG1.out _ h4 HM3.out).mono ?_); rintro e w4 ⟨rfl, hm4, y3, y2, yf⟩; have HM4 := Lib.hid hm4; clear hm4))
    go_ret
    exact HQ.out _ HM4.out
  rw [if_neg z3] at HR1
  have hways : ((at0 : Int) + s == n) = false ∨ ((at0 : Int) + s == n) = true ∧ fl = true ∧ n - at0 ≤ 4 := by
    by_cases hh : at0 + s = n
    · refine .inr ⟨by simp; omega, ?_, by omega⟩
      cases fl with
      | true => rfl
      | false => exact absurd ⟨by omega, rfl⟩ z3
    · exact .inl (by simp; omega)
  clear z3
  have hs9 : at0 + s ≤ n := by omega
  by_cases z5 : r = 127
  · rw [if_pos z5] at HR1
    have d5 : ((r : Int) == 127) = true := by simp; omega
    have HQ : Hid (∀ W, RO E (some ⟨b, off, none⟩) c zs m es 0 0 w W → RQ E (some ⟨b, off, none⟩) c zs m es at0 R w (.returned (.int .i64 ((at0 : Int) + s))) W) := Lib.hid fun W h => by
      rw [HR1.out]
      exact ⟨by simp, by rw [List.append_nil]; exact h.1, h.2⟩
    clear z5
    rcases hways with hq | ⟨hq, rfl, h4⟩
    · go_enter Tryd.func20, Tryd.ntmps20
      go_wp2_with (first
        | (go_at_call 27; (with_reducible refine (HON1.out _ rfl).mono ?_); rintro e w3 ⟨rfl, hm3, x3, x2, xf⟩; have HM3 := Lib.hid hm3; clear hm3))
      go_ret
      exact HQ.out _ HM3.out
    · go_enter Tryd.func20, Tryd.ntmps20
      go_wp2_with (first
        | (go_at_call 27; (with_reducible refine (HON1.out _ rfl).mono ?_); rintro e w3 ⟨rfl, hm3, x3, x2, xf⟩; have HM3 := Lib.hid hm3; clear hm3)
        | (go_at_call 28; (with_reducible refine (HBG1.out _ h4 HM3.out).mono ?_); rintro e w4 ⟨rfl, hm4, y3, y2, yf⟩; have HM4 := Lib.hid hm4; clear hm4))
      go_ret
      exact HQ.out _ HM4.out
  rw [if_neg z5] at HR1
  have d5 : ((r : Int) == 127) = false := by simp; omega
  by_cases z6 : 128 ≤ r ∧ r ≤ 159
  · rw [if_pos z6, up_be] at HR1
    have d6 : decide (128 ≤ (r : Int)) = true := decide_eq_true (by omega)
    have d7 : decide ((r : Int) ≤ 159) = true := decide_eq_true (by omega)
    have v1 : (r : Int) - 64 ≤ 95 := by omega
    have v2 : 64 ≤ (r : Int) - 64 := by omega
    have v3 : ((r : Int) - 64) % 256 = (r : Int) - 64 := by omega
    have HQ : Hid (∀ W W', RO E (some ⟨b, off, none⟩) c zs m es 0 0 w W → ∀ e, RQ E (some ⟨b, off, none⟩) c zs m es (at0 + s) (lastR m ((r : Int) - 64) (zs.drop (at0 + s))) W e W' → RQ E (some ⟨b, off, none⟩) c zs m es at0 R w e W') := Lib.hid fun W W' h e hq => by
      obtain ⟨h1, h2, h3⟩ := hq
      rw [HR1.out]
      unfold RX.be
      exact ⟨by rw [h1, Nat.add_assoc], h2, h.2.trans h3⟩
    clear z5 z6
    rcases hways with hq | ⟨hq, rfl, h4⟩
    · go_enter Tryd.func20, Tryd.ntmps20
      go_wp2_with (first
        | (go_at_call 27; (with_reducible refine (HON1.out _ rfl).mono ?_); rintro e w3 ⟨rfl, hm3, x3, x2, xf⟩; have HM3 := Lib.hid hm3; clear hm3)
        | (go_at_call 29; (with_reducible refine (HLA.out w3 _ _ (at0 + s) (by omega) hs9 (RO.rm HM3.out)).mono ?_); rintro e w5 hr5; have HR5 := Lib.hid (HQ.out _ _ HM3.out _ hr5); obtain ⟨rfl, hr6⟩ := hr5; clear hr6))
      go_ret
      exact HR5.out
    · go_enter Tryd.func20, Tryd.ntmps20
      go_wp2_with (first
        | (go_at_call 27; (with_reducible refine (HON1.out _ rfl).mono ?_); rintro e w3 ⟨rfl, hm3, x3, x2, xf⟩; have HM3 := Lib.hid hm3; clear hm3)
        | (go_at_call 28; (with_reducible refine (HBG1.out _ h4 HM3.out).mono ?_); rintro e w4 ⟨rfl, hm4, y3, y2, yf⟩; have HM4 := Lib.hid hm4; clear hm4)
        | (go_at_call 29; (with_reducible refine (HLA.out w4 _ _ (at0 + s) (by omega) hs9 (RO.rm HM4.out)).mono ?_); rintro e w5 hr5; have HR5 := Lib.hid (HQ.out _ _ HM4.out _ hr5); obtain ⟨rfl, hr6⟩ := hr5; clear hr6))
      go_ret
      exact HR5.out
  · rw [if_neg z6] at HR1
    have d67 : decide (128 ≤ (r : Int)) = false ∨ decide (128 ≤ (r : Int)) = true ∧ decide ((r : Int) ≤ 159) = false := by
      by_cases h : 128 ≤ r
      · exact .inr ⟨decide_eq_true (by omega), decide_eq_false (by omega)⟩
      · exact .inl (decide_eq_false (by omega))
    have HQ : Hid (∀ W W', RO E (some ⟨b, off, none⟩) c zs m es 0 0 w W → RO E (some ⟨b, off, none⟩) c zs m (es ++ [printP r]) 0 0 W W' → RQ E (some ⟨b, off, none⟩) c zs m es at0 R w (.returned (.int .i64 ((at0 : Int) + s))) W') := Lib.hid fun W W' h h2 => by
      rw [HR1.out]
      exact ⟨by simp, h2.1, h.2.trans h2.2⟩
    clear z5 z6
    rcases hways with hq | ⟨hq, rfl, h4⟩
    · rcases d67 with d6 | ⟨d6, d7⟩
      all_goals
        go_enter Tryd.func20, Tryd.ntmps20
        go_wp2_with (first
          | (go_at_call 27; (with_reducible refine (HON1.out _ rfl).mono ?_); rintro e w3 ⟨rfl, hm3, x3, x2, xf⟩; have HM3 := Lib.hid hm3; clear hm3)
          | (go_at_call 26; (with_reducible refine (HPR.out w3 r (RO.rm HM3.out)).mono ?_); rintro e w5 ⟨rfl, hr5⟩; have HR5 := Lib.hid (HQ.out _ _ HM3.out hr5); clear hr5))
        go_ret
        exact HR5.out
    · rcases d67 with d6 | ⟨d6, d7⟩
      all_goals
        go_enter Tryd.func20, Tryd.ntmps20
        go_wp2_with (first
          | (go_at_call 27; (with_reducible refine (HON1.out _ rfl).mono ?_); rintro e w3 ⟨rfl, hm3, x3, x2, xf⟩; have HM3 := Lib.hid hm3; clear hm3)
          | (go_at_call 28; (with_reducible refine (HBG1.out _ h4 HM3.out).mono ?_); rintro e w4 ⟨rfl, hm4, y3, y2, yf⟩; have HM4 := Lib.hid hm4; clear hm4)
          | (go_at_call 26; (with_reducible refine (HPR.out w4 r (RO.rm HM4.out)).mono ?_); rintro e w5 ⟨rfl, hr5⟩; have HR5 := Lib.hid (HQ.out _ _ HM4.out hr5); clear hr5))
        go_ret
        exact HR5.out

end Go.Proofs.YtmmkcfjncpcabaaDoor

namespace Go.Proofs.YtmmkcfjncpcabaaDoor
open Go.RowKit

theorem cmdR_le (m : Nat) : ∀ (xs : List Nat) (acc : List UInt8), (cmdR m acc xs).n ≤ xs.length
  | [], _ => Nat.le_refl _
  | c :: xs, acc => by
    have h1 := cmdR_le m xs (acc ++ [UInt8.ofNat c])
    have h2 := cmdR_le m xs acc
    unfold cmdR
    repeat' split
    all_goals (try simp only [up_n, List.length_cons])
    all_goals omega
theorem strR_le : ∀ (xs : List Nat), (strR xs).n ≤ xs.length
  | [] => Nat.le_refl _
  | c :: xs => by
    have h1 := strR_le xs
    unfold strR
    repeat' split
    all_goals (try simp only [up_n, List.length_cons])
    all_goals omega
theorem payR_le (m : Nat) (acc : List UInt8) (last : Int) : ∀ (xs : List Nat) (pay : List UInt8), (payR m acc last pay xs).n ≤ xs.length
  | [], _ => Nat.le_refl _
  | c :: xs, pay => by
    have h1 := payR_le m acc last xs (pay ++ [UInt8.ofNat c])
    unfold payR
    split
    · exact Nat.zero_le _
    · simp only [up_n, List.length_cons]
      omega
theorem seqR_le (m : Nat) (dev : Bool) : ∀ (xs : List Nat) (acc : List UInt8), (seqR m dev acc xs).n ≤ xs.length
  | [], _ => Nat.le_refl _
  | c :: xs, acc => by
    have h1 := seqR_le m dev xs (acc ++ [UInt8.ofNat c])
    have h2 := seqR_le m dev xs acc
    have h3 := payR_le m acc c xs []
    unfold seqR
    repeat' split
    all_goals (try simp only [up_n, cons_n, List.length_cons])
    all_goals omega
theorem lastR_le (m : Nat) (x : Int) (xs : List Nat) : (lastR m x xs).n ≤ xs.length := by
  have h1 := seqR_le m false xs []
  have h2 := seqR_le m true xs []
  have h3 := cmdR_le m xs []
  have h4 := strR_le xs
  unfold lastR
  repeat' split
  all_goals first | assumption | exact Nat.zero_le _
theorem escR_le (m : Nat) : ∀ (xs : List Nat) (inter : List UInt8), (escR m inter xs).n ≤ xs.length
  | [], _ => Nat.le_refl _
  | c :: xs, inter => by
    have h1 := escR_le m xs (inter ++ [UInt8.ofNat c])
    have h2 := escR_le m xs inter
    have h3 := lastR_le m c xs
    unfold escR
    repeat' split
    all_goals (try simp only [up_n, cons_n, List.length_cons])
    all_goals omega
theorem restR_le (m : Nat) (xs : List Nat) (h : xs ≠ []) : (restR m xs).n ≤ xs.length := by
  have hp := List.length_pos_iff.2 h
  have hb := firstF_bd xs hp
  have h1 := escR_le m xs.tail []
  rw [List.length_tail] at h1
  have h2 := lastR_le m (((firstF xs).1 : Int) - 64) (xs.drop (firstF xs).2)
  rw [List.length_drop] at h2
  unfold restR
  simp only
  repeat' split
  all_goals (try simp only [up_n])
  all_goals omega
theorem OfR_len (m : Nat) (zs : List Nat) (h8 : ∀ z ∈ zs, z < 256) : (OfR m zs).1.length ≤ 5 * zs.length := by
  rw [← parse_of m zs h8]
  have := takesP_len (u8s zs) (newP m) (PSB.nil rfl)
  rw [u8s, List.length_map] at this
  exact this
set_option maxRecDepth 100000 in
set_option maxHeartbeats 8000000 in
theorem of_any (A : Option Addr) (zs : List Nat) (n c m : Nat) (hnz : n = zs.length) (hc : n ≤ c) (hn : n ≤ 1000) (w : World) (hR : BS w w.heap.size A zs) :
    Calls Tryd.prog 12 #[.slice A n c, .int .i64 m] w fun e w' => e = .returned (.pointer (some ⟨w.heap.size, 0, none⟩)) ∧ RM w' w.heap.size A c zs m (OfR m zs).1 (OfR m zs).2.1 (OfR m zs).2.2 ∧ Below w.heap.size w w' := by
  have h8 := hR.1
  have HL := Lib.hid (OfR_len m zs h8)
  have HI : Hid (RM (w.alloc (.cells #[.slice none 0 0, .int .i64 0, .int .i64 0, .slice A n c, .int .i64 m] 32)) w.heap.size A c zs m [] 0 0) := Lib.hid ⟨⟨.slice none 0 0, [], by rw [← hnz]; exact heap_alloc_new w _, World.ownsRow_nil _ _ _ _, rfl⟩, hR.below ((Below.refl _ _).alloc (Nat.le_refl _) _)⟩
  have HB : Hid (Below w.heap.size w (w.alloc (.cells #[.slice none 0 0, .int .i64 0, .int .i64 0, .slice A n c, .int .i64 m] 32))) := Lib.hid ((Below.refl _ _).alloc (Nat.le_refl _) _)
  have HNZ := Lib.hid hnz
  obtain ⟨O, hO⟩ : ∃ O, O = OfR m zs := ⟨_, rfl⟩
  have HO : Hid (O = pre [] (OfR m (zs.drop 0))) := Lib.hid hO
  have HO0 : Hid (0 = n → O = ([], 0, 0)) := Lib.hid fun h => by
    have : zs = [] := List.length_eq_zero_iff.1 (by omega)
    rw [hO, this, OfR_nil]
  rw [← hO] at HL
  rw [← hO]
  clear hO hR hnz
  have HRE : Hid (∀ W k es st hd, RM W w.heap.size A c zs m es st hd → k < n → es.length ≤ 10000 → Calls Tryd.prog 20 #[.pointer (some ⟨w.heap.size, 0, none⟩), .int .i64 (k : Nat)] W (RQ w.heap.size A c zs m es k (restR m (zs.drop k)) W)) := Lib.hid fun W k es st hd hM hk hl => rest_any W _ A c zs m es k st hd hM (by rw [← HNZ.out]; exact hc) (by rw [← HNZ.out]; exact hk) (by rw [← HNZ.out]; exact hn) hl
  go_enter Tryd.func12, Tryd.ntmps12
  go_wp2
  go_loopw [6] (fun i wr => ∃ (k : Nat) (es : List PE) (st : Int) (hd : Nat), k ≤ n ∧ i = .int .i64 k ∧ Hid (k < n → O = pre es (OfR m (zs.drop k))) ∧ Hid (k = n → O = (es, st, hd)) ∧ Hid (RM wr w.heap.size A c zs m es st hd) ∧ Hid (Below w.heap.size w wr)) (fun i _ => n - (intOf i).toNat)
  case atStart => exact ⟨0, [], 0, 0, Nat.zero_le _, rfl, Lib.hid fun _ => HO.out, Lib.hid fun h => HO0.out h, HI, HB⟩
  case round =>
    obtain ⟨k, es, st, hd, hk, rfl, HP, HE, HM, HBr⟩ := hrel
    by_cases hlt : k < n
    · have hki : (k : Int) < n := by omega
      have hO1 := HP.out hlt
      have hel : es.length ≤ 10000 := by
        have := HL.out
        rw [hO1] at this
        have hz := HNZ.out
        simp only [pre, List.length_append] at this
        omega
      have hdr : zs.drop k ≠ [] := fun e => by
        have := congrArg List.length e
        rw [List.length_drop, List.length_nil, ← HNZ.out] at this
        omega
      have hle := restR_le m (zs.drop k) hdr
      have hge := restR_pos m (zs.drop k) hdr
      rw [List.length_drop, ← HNZ.out] at hle
      have hO2 : O = pre es (comb m (restR m (zs.drop k)) (zs.drop k)) := by rw [hO1, OfR_cons m _ hdr]
      have HRK := Lib.hid (HRE.out wr k es st hd HM.out hlt hel)
      generalize restR m (zs.drop k) = R at *
      have HP2 : Hid (k + R.n < n → O = pre (es ++ R.es) (OfR m (zs.drop (k + R.n)))) := Lib.hid fun h => by
        rw [hO2]
        unfold comb
        rw [if_neg (by rw [List.length_drop, ← HNZ.out]; omega), List.drop_drop]
        exact pre_pre es R.es _
      have HE2 : Hid (k + R.n = n → O = (es ++ R.es, R.st, R.hd)) := Lib.hid fun h => by
        rw [hO2]
        unfold comb
        rw [if_pos (by rw [List.length_drop, ← HNZ.out]; omega)]
        rfl
      clear hO1 hO2 hdr HP HE
      go_wp2_with (go_at_call 20; (with_reducible refine HRK.out.mono ?_); rintro e w2 ⟨rfl, hr⟩; have HR2 := Lib.hid hr; clear hr)
      exact ⟨⟨k + R.n, es ++ R.es, R.st, R.hd, by omega, rfl, HP2, HE2, Lib.hid HR2.out.1, Lib.hid (HBr.out.trans HR2.out.2)⟩, by simp [intOf]; omega⟩
    · have hki : ¬ (k : Int) < n := by omega
      have hO1 := Lib.hid (HE.out (by omega))
      clear HP HE
      go_wp2
      go_ret
      refine ⟨rfl, ?_, HBr.out⟩
      rw [hO1.out]
      exact HM.out

end Go.Proofs.YtmmkcfjncpcabaaDoor

namespace Go.Proofs.YtmmkcfjncpcabaaDoor
open Go.RowKit

theorem own_formO {w : World} {base : Nat} {e : TypeId} {size : Nat} {v : Value} {k : Nat} {xs : List Value} (h : w.ownsRow base e size v k xs) :
    ∃ A c, v = .slice A k c ∧ (A = none → k = 0 ∧ c = 0) ∧ (∀ ad, A = some ad → ∃ g, ad = ⟨g, 0, none⟩) := by
  rcases h.2 with ⟨rfl, rfl⟩ | ⟨g, cap, cur, rfl, _⟩
  · exact ⟨none, 0, rfl, (fun _ => ⟨rfl, rfl⟩), (fun _ e => by cases e)⟩
  · exact ⟨_, cap, rfl, (fun e => by cases e), (fun ad e => ⟨g, (Option.some.inj e).symm⟩)⟩
/-- A parser at D and a run at E that lies above it, with its events in a row that the parser does not turn. -/
def PRS (w0 W : World) (D E : Nat) (s : PM) (v : Value) (es : List PE) (st : Int) (hd : Nat) : Prop :=
  ∃ a cs A n c m, MI W D s [] a ∧ GT W D ∧ Below w0.heap.size w0 W ∧ w0.heap.size ≤ D ∧ GH s ∧ QS s ∧ RBl W E v st hd A n c m ∧ W.ownsRow (E + 1) 41 8 v es.length cs ∧ EvL W es cs ∧ ¬ Mut D a E ∧ ∀ g, some g = v.ownBlock → ¬ Mut D a g
theorem PRS.of {w0 W W' : World} {D : Nat} {s : PM} {A : Option Addr} {c : Nat} {zs : List Nat} {m : Nat} {es : List PE} {st : Int} {hd : Nat} (h : C1 w0 W D s) (hM : RM W' W.heap.size A c zs m es st hd) (hb : Below W.heap.size W W') : ∃ B k, PRS w0 W' D W.heap.size s (.slice B es.length k) es st hd := by
  have hp := h.past hb
  obtain ⟨a, hm⟩ := h.mi
  obtain ⟨v, cs, h1, h2, h3⟩ := hM.row
  obtain ⟨B, k, hv, _⟩ := own_formO h2
  subst hv
  refine ⟨B, k, a, cs, A, zs.length, c, m, (hm.past hb).1, hp.gt, hp.b, hp.l, hp.gh, hp.qs, h1, h2, h3, fun hi => by have := (hm.low hi).2; omega, fun g e hi => ?_⟩
  have h4 := (hm.low hi).2
  have h5 := (own_lt' h2 e).1
  omega
theorem PRS.c {w0 W : World} {D E : Nat} {s : PM} {v : Value} {es : List PE} {st : Int} {hd : Nat} (h : PRS w0 W D E s v es st hd) : W.cell? ⟨E, 0, none⟩ = some v ∧ W.cell? ⟨E, 1, none⟩ = some (.int .i64 st) ∧ W.cell? ⟨E, 2, none⟩ = some (.int .i64 hd) := by
  obtain ⟨a, cs, A, n, c, m, _, _, _, _, _, _, h1, _⟩ := h
  exact ⟨(cell_of_row _ _ 0 _ _ _ h1).trans rfl, (cell_of_row _ _ 1 _ _ _ h1).trans rfl, (cell_of_row _ _ 2 _ _ _ h1).trans rfl⟩
theorem PRS.b {w0 W : World} {D E : Nat} {s : PM} {v : Value} {es : List PE} {st : Int} {hd : Nat} (h : PRS w0 W D E s v es st hd) : Below w0.heap.size w0 W := by
  obtain ⟨a, cs, A, n, c, m, _, _, h1, _⟩ := h
  exact h1
theorem PRS.past {w0 W W' : World} {D E : Nat} {s : PM} {v : Value} {es : List PE} {st : Int} {hd : Nat} (h : PRS w0 W D E s v es st hd) (hb : Below W.heap.size W W') : PRS w0 W' D E s v es st hd := by
  obtain ⟨a, cs, A, n, c, m, h1, h2, h3, h4, h5, h6, h7, h8, h9, h10, h11⟩ := h
  exact ⟨a, cs, A, n, c, m, (h1.past hb).1, h2.past (lt_of_block h1.blk) hb, h3.trans (hb.mono h3.size), h4, h5, h6, (hb.block E (lt_of_block h7)).trans h7, own_past h8 hb, EvL.kept (NT.below hb) _ _ h9, h10, h11⟩
theorem PRS.drew {w0 W : World} {D E : Nat} {s : PM} {v : Value} {es : List PE} {st : Int} {hd : Nat} (h : PRS w0 W D E s v es st hd) : PRS w0 W.drew D E s v es st hd := h.past (Below.refl _ _).drew
theorem PRS.evs {w0 W : World} {D E : Nat} {s : PM} {B : Option Addr} {n k : Nat} {es : List PE} {st : Int} {hd : Nat} (h : PRS w0 W D E s (.slice B n k) es st hd) (hn : n = es.length) : EvS W B es := by
  subst hn
  obtain ⟨a, cs, A, n, c, m, _, _, _, _, _, _, _, h8, h9, _⟩ := h
  exact EvS.of_own h8 rfl h9
/-- The parser is called: the run stays. -/
theorem PRS.call {w0 W : World} {D E : Nat} {s s' : PM} {v : Value} {es es' : List PE} {st : Int} {hd : Nat} {f : FuncId} {args : Array Value} (h : PRS w0 W D E s v es st hd) (hh : GH s') (hq : QS s')
    (hc : ∀ a, MI W D s [] a → Calls Tryd.prog f args W fun e w' => ∃ v, e = .returned v ∧ AP D s' es' a W v w') :
    Calls Tryd.prog f args W fun e w' => ∃ A c, e = .returned (.slice A es'.length c) ∧ PRS w0 w' D E s' v es st hd ∧ EvS w' A es' := by
  obtain ⟨a, cs, A, n, c, m, h1, h2, h3, h4, h5, h6, h7, h8, h9, h10, h11⟩ := h
  refine (hc a h1).mono fun e w' ⟨v', he, cs', a', A', c', hv', hm', hf, ho, hl, hn, hg⟩ => ?_
  subst hv'
  have hb := hf.below h1
  refine ⟨A', c', he, ⟨a', cs, A, n, c, m, hm', h2.below (lt_of_block h1.blk) hb, h3.trans (hb.mono h4), h4, hh, hq, ?_, own_keeps h8 hf.kb (fun g e => h11 g e), EvL.kept (h1.nt hf.kb) _ _ h9, fun hi => (hf.mu E hi).elim h10 (fun hs => by have := lt_of_block h7; omega), fun g e hi => (hf.mu g hi).elim (h11 g e) (fun hs => by have := (own_lt' h8 e).2; omega)⟩, EvS.of_own ho rfl hl⟩
  exact (hf.kb.block E (lt_of_block h7) h10).trans h7
theorem PRS.rb {w0 W : World} {D E : Nat} {s : PM} {v : Value} {es : List PE} {st : Int} {hd : Nat} (h : PRS w0 W D E s v es st hd) {A : Option Addr} {zs : List Nat} {n c : Nat} (hR : BS w0 w0.heap.size A zs) (hc : n ≤ c) {a : PV} (hm : MI W D s [] a) : RB D a W A (u8s zs) := by
  obtain ⟨_, _, _, _, _, _, _, _, h3, h4, _⟩ := h
  exact RB.of_bs hm hR h4 h3 hc
theorem all_prs {w0 W : World} {D E : Nat} {s : PM} {v : Value} {es : List PE} {st : Int} {hd : Nat} (h : PRS w0 W D E s v es st hd) (A : Option Addr) (zs : List Nat) (n c : Nat) (hl : n = zs.length) (hc : n ≤ c) (hn : n ≤ 10000) (hR : BS w0 w0.heap.size A zs) : Calls Tryd.prog 14 #[.pointer (some ⟨D, 0, none⟩), .slice A n c] W fun e w' => ∃ A' c', e = .returned (.slice A' (takesP s (u8s zs)).2.length c') ∧ PRS w0 w' D E (takesP s (u8s zs)).1 v es st hd ∧ EvS w' A' (takesP s (u8s zs)).2 := by
  obtain ⟨_, _, _, _, _, _, _, hgt, _, _, hgh, hqs, _⟩ := id h
  exact h.call (hgh.takes _) (hqs.takes _ hgh.gq) fun a ha => all_mi ha hgt hgh.gq A (u8s zs) c n (by rw [hl]; simp [u8s]) (h.rb hR hc ha) hn
theorem state_prs {w0 W : World} {D E : Nat} {s : PM} {v : Value} {es : List PE} {st : Int} {hd : Nat} (h : PRS w0 W D E s v es st hd) : Calls Tryd.prog 15 #[.pointer (some ⟨D, 0, none⟩)] W (fun e w' => e = .returned (.int .i64 s.state) ∧ PRS w0 w' D E s v es st hd) := by
  obtain ⟨a, _, _, _, _, _, hm, _⟩ := id h
  exact (state_mi hm).mono fun _ _ hp => ⟨hp.1, h.past hp.2⟩
theorem held_prs {w0 W : World} {D E : Nat} {s : PM} {v : Value} {es : List PE} {st : Int} {hd : Nat} (h : PRS w0 W D E s v es st hd) : Calls Tryd.prog 16 #[.pointer (some ⟨D, 0, none⟩)] W (fun e w' => e = .returned (.int .i64 (heldP s : Nat)) ∧ PRS w0 w' D E s v es st hd) := by
  obtain ⟨a, _, _, _, _, _, hm, _, _, _, hgh, _⟩ := id h
  exact (held_gh hm hgh).mono fun _ _ hp => ⟨hp.1, h.past hp.2⟩
theorem takes_len (m : Nat) (zs : List Nat) : (takesP (newP m) (u8s zs)).2.length ≤ 5 * zs.length := by
  have := takesP_len (u8s zs) (newP m) (PSB.nil rfl)
  rw [u8s, List.length_map] at this
  exact this
set_option maxRecDepth 100000 in
set_option maxHeartbeats 8000000 in
theorem parseAll_main (A : Option Addr) (zs : List Nat) (n c h : Nat) (hn : n = zs.length) (hc : n ≤ c) (hh : h < 256) (hn2 : n ≤ 400) (w : World) (hG : GW w) (hR : BS w w.heap.size A zs) :
    Calls Tryd.prog 3 #[.slice A n c, .int .u8 h] w fun e w' => e = .returned (.bool true) ∧ Below w.heap.size w w' := by
  have HA : Hid (∀ W, Below w.heap.size w W → Calls Tryd.prog 10 #[] W fun e w' => e = .returned (.bool true) ∧ Below w.heap.size w w') := Lib.hid fun W hW => (awake_any W (hG.below hW)).mono fun _ _ hp => ⟨hp.1, hW.trans (hp.2.mono hW.size)⟩
  have HM : Hid (∀ W (z : Int), z = (h : Int) → Below w.heap.size w W → Calls Tryd.prog 11 #[.int .u8 z] W fun e w' => e = .returned (.pointer (some ⟨W.heap.size, 0, none⟩)) ∧ C1 w w' W.heap.size (newP (h + 1))) := Lib.hid fun W z hz hW => by rw [hz]; exact (made_any h (by omega) W).mono fun _ _ hp => ⟨hp.1, C1.new hG hW hp.2.1 hp.2.2 (by omega)⟩
  have hout := parse_of (h + 1) zs hR.1
  obtain ⟨T, hT⟩ : ∃ T, T = (takesP (newP (h + 1)) (u8s zs)).1 := ⟨_, rfl⟩
  obtain ⟨es, hes⟩ : ∃ es, es = (takesP (newP (h + 1)) (u8s zs)).2 := ⟨_, rfl⟩
  unfold outP at hout
  rw [← hT, ← hes] at hout
  have hlen : es.length ≤ 2000 := by rw [hes]; have := takes_len (h + 1) zs; omega
  have HOF : Hid (∀ W D (m : Int), m = (h : Int) + 1 → C1 w W D (newP (h + 1)) → Calls Tryd.prog 12 #[.slice A n c, .int .i64 m] W fun e w' => e = .returned (.pointer (some ⟨W.heap.size, 0, none⟩)) ∧ ∃ B k, PRS w w' D W.heap.size (newP (h + 1)) (.slice B es.length k) es T.state (heldP T)) := Lib.hid fun W D m hm h1 => by
    rw [hm, show (h : Int) + 1 = ((h + 1 : Nat) : Int) by push_cast; rfl]
    refine (of_any A zs n c (h + 1) hn hc (by omega) W ((hR.below h1.b).more h1.b.size)).mono fun e w' ⟨he, hM, hb⟩ => ⟨he, ?_⟩
    rw [← hout] at hM
    exact PRS.of h1 hM hb
  have HAL : Hid (∀ W D E v, PRS w W D E (newP (h + 1)) v es T.state (heldP T) → Calls Tryd.prog 14 #[.pointer (some ⟨D, 0, none⟩), .slice A n c] W fun e w' => ∃ A' c', e = .returned (.slice A' es.length c') ∧ PRS w w' D E T v es T.state (heldP T) ∧ EvS w' A' es) := Lib.hid fun W D E v hp => by
    have := all_prs hp A zs n c hn hc (by omega) hR
    rw [← hT, ← hes] at this
    exact this
  have HZ : Hid (∀ W D E B k A' c', PRS w W D E T (.slice B es.length k) es T.state (heldP T) → EvS W A' es → Calls Tryd.prog 13 #[.slice A' es.length c', .slice B es.length k] W fun e w' => e = .returned (.bool true) ∧ PRS w w' D E T (.slice B es.length k) es T.state (heldP T)) := Lib.hid fun W D E B k A' c' hp hv => (same4_any A' B es es es.length es.length c' k rfl rfl (by omega) W hv (hp.evs rfl) (by rw [hes]; exact (nb_takes _ _).small)).mono fun _ _ hq => ⟨by rw [hq.1]; simp, hp.past hq.2⟩
  have HU : Hid (∀ W D E v, PRS w W D E T v es T.state (heldP T) → Calls Tryd.prog 15 #[.pointer (some ⟨D, 0, none⟩)] W (fun e w' => e = .returned (.int .i64 T.state) ∧ PRS w w' D E T v es T.state (heldP T))) := Lib.hid fun W D E v hp => state_prs hp
  have HH : Hid (∀ W D E v, PRS w W D E T v es T.state (heldP T) → Calls Tryd.prog 16 #[.pointer (some ⟨D, 0, none⟩)] W (fun e w' => e = .returned (.int .i64 (heldP T : Nat)) ∧ PRS w w' D E T v es T.state (heldP T))) := Lib.hid fun W D E v hp => held_prs hp
  have n1 : ¬ (400 : Int) < n := by omega
  clear hn hR hG hout hT hes hlen
  go_enter Tryd.func3, Tryd.ntmps3
  go_wp2_with (first
    | (go_at_call 10; (with_reducible refine (HA.out _ (Below.refl _ _)).mono ?_); rintro e w1 ⟨rfl, hb1⟩; have HB1 := Lib.hid hb1; clear hb1)
    | (go_at_call 11; (with_reducible refine (HM.out w1 _ rfl HB1.out).mono ?_); rintro e w2 ⟨rfl, hm2'⟩; have HC2 := Lib.hid hm2'; clear hm2')
    | (go_at_call 12; (with_reducible refine (HOF.out w2 _ _ rfl HC2.out).mono ?_); rintro e w3 ⟨rfl, B3, k3, hp3⟩; have HC3 := Lib.hid hp3; clear hp3))
  have hS := HC3.out.c
  have hSd := HC3.out.drew.c
  go_region_held3 (fun W => W.cell? ⟨w2.heap.size, 0, none⟩ = some (.slice B3 es.length k3) ∧ W.cell? ⟨w2.heap.size, 1, none⟩ = some (.int .i64 T.state) ∧ W.cell? ⟨w2.heap.size, 2, none⟩ = some (.int .i64 (heldP T)))
    (first | exact hS | exact hSd | exact hS4 | exact hS5 | exact hS6 | exact hS7 | assumption)
    (first
      | (go_at_call 14; (with_reducible refine (HAL.out _ _ _ _ (by first | exact HC3.out | exact HC3.out.drew)).mono ?_); rintro e w4 ⟨A4, c4, rfl, hp4, hv4⟩; have hS4 := hp4.c; have HC4 := Lib.hid hp4; have HV4 := Lib.hid hv4; clear hp4 hv4)
      | (go_at_call 13; (with_reducible refine (HZ.out _ _ _ _ _ _ _ HC4.out HV4.out).mono ?_); rintro e w5 ⟨rfl, hp5⟩; have hS5 := hp5.c; have HC5 := Lib.hid hp5; clear hp5)
      | (go_at_call 15; (with_reducible refine (HU.out _ _ _ _ HC5.out).mono ?_); rintro e w6 ⟨rfl, hp6⟩; have hS6 := hp6.c; have HC6 := Lib.hid hp6; clear hp6)
      | (go_at_call 16; (with_reducible refine (HH.out _ _ _ _ HC6.out).mono ?_); rintro e w7 ⟨rfl, hp7⟩; have hS7 := hp7.c; have HC7 := Lib.hid hp7; clear hp7))
  go_wp2
  go_ret
  exact ⟨rfl, HC7.out.b⟩
set_option maxRecDepth 100000 in
set_option maxHeartbeats 8000000 in
theorem parseAll_law (A : Option Addr) (zs : List Nat) (n c h : Nat) (hn : n = zs.length) (hc : n ≤ c) (hh : h < 256) (w : World) (hG : GW w) (hR : BS w w.heap.size A zs) :
    Calls Tryd.prog 3 #[.slice A n c, .int .u8 h] w fun e w' => e = .returned (.bool true) ∧ Below w.heap.size w w' := by
  by_cases h1 : n ≤ 400
  · exact parseAll_main A zs n c h hn hc hh h1 w hG hR
  · have HA := Lib.hid (awake_any w hG)
    have n1 : (400 : Int) < n := by omega
    clear hn hR hG
    go_enter Tryd.func3, Tryd.ntmps3
    go_wp2_with (go_at_call 10; (with_reducible refine HA.out.mono ?_); rintro e w1 ⟨rfl, hb1⟩; have HB1 := Lib.hid hb1; clear hb1)
    go_ret
    exact ⟨rfl, HB1.out⟩
theorem parseAll_lawI (A : Option Addr) (zs : List Nat) (n c : Nat) (h : Int) (hn : n = zs.length) (hc : n ≤ c) (h0 : 0 ≤ h) (hh : h ≤ 255) (w : World) (hG : GW w) (hR : BS w w.heap.size A zs) :
    Calls Tryd.prog 3 #[.slice A n c, .int .u8 h] w fun e w' => e = .returned (.bool true) ∧ Below w.heap.size w w' := by
  obtain ⟨k, rfl⟩ : ∃ k : Nat, h = k := ⟨h.toNat, by omega⟩
  exact parseAll_law A zs n c k hn hc (by omega) w hG hR

end Go.Proofs.YtmmkcfjncpcabaaDoor
