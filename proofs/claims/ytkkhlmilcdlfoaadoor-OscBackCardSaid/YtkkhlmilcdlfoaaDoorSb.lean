/- The walk of the program's Escape. -/
import Derived.Test.YtkkhlmilcdlfoaaDoorSa
import Derived.Test.YtkkhlmilcdlfoaaDoorRw
import Derived.Lib.ConvBytes
namespace Go.Proofs.YtkkhlmilcdlfoaaDoor
open Go.RowKit Go.Shelf

theorem and15F : ∀ n : Fin 256, bits .and .u8 ((n.val : Nat) : Int) 15 = ((n.val % 16 : Nat) : Int) := by decide +kernel
theorem and15 (n : Nat) (h : n < 256) : bits .and .u8 (n : Int) 15 = ((n % 16 : Nat) : Int) := and15F ⟨n, h⟩
theorem strCells_bs (l : List UInt8) : Lib.strCells (bsB l) = Lib.byteCells l := by
  simp [Lib.strCells, Lib.byteCells, bsB]
theorem byteCells_app (l m : List UInt8) : Lib.byteCells (l ++ m) = Lib.byteCells l ++ Lib.byteCells m := by simp [Lib.byteCells]
theorem byteCells_len (l : List UInt8) : (Lib.byteCells l).length = l.length := by simp [Lib.byteCells]
theorem TW.past {R b : Nat} {p : Value} {bs : List Value} {w w' : World} (h : TW R b p bs w) (hb : Below w.heap.size w w') : TW R b p bs w' := by
  obtain ⟨hR, v, hv, ho⟩ := h
  refine ⟨hR, v, (hb.block b (Array.getElem?_eq_some_iff.1 hv).1).trans hv, ho.kept (row := none) (grown_of_below hb) (by cases hv : v.ownBlock <;> simp)⟩
theorem TB.past {R b : Nat} {bs : List Value} {w w' : World} (h : TB R b bs w) (hb : Below w.heap.size w w') : TB R b bs w' := h.elim (fun h => .inl (h.past hb)) (fun h => .inr (h.past hb))
theorem at4 (w : World) (a b c d : Value) : atG w.heap.size [a, b, c, d] (w.alloc (.cells #[a, b, c, d] 5)) := fun j u hj => by
  have e : ((⟨w.heap.size, 0, none⟩ : Addr).add j) = ⟨w.heap.size, j, none⟩ := by unfold Addr.add; split <;> simp_all
  rw [e, cell_of_row _ _ j _ _ _ (heap_alloc_new w _), ← hj]
  simp
theorem hex_at : ∀ k : Fin 16, hexLow[k.val]? = some (hexW k.val) := by decide
set_option maxRecDepth 100000 in
set_option maxHeartbeats 8000000 in
theorem escape_any (l : List UInt8) (hl : l.length ≤ 10000) (w : World) : Calls Tryd.prog 14 #[.string (bsB l)] w fun e w' => e = .returned (.string (bsB (escL l))) ∧ Below w.heap.size w w' := by
  obtain ⟨W1, hW1⟩ : ∃ W1, W1 = w.alloc (.cells #[.pointer none, .slice none 0 0] 48) := ⟨_, rfl⟩
  have hz1 : W1.heap.size = w.heap.size + 1 := by rw [hW1]; simp
  have hcv := Lib.run_convert_string_bytes (P := Tryd.prog) W1 9 46 5 (bsB l) Tryd.underlying9 Tryd.underlying46 Tryd.underlying5
  have HD0 : Hid ((Lib.bytesWorld W1 5 (bsB l)).heap[w.heap.size + 1]? = some (.cells (Lib.bytesCells W1 5 (bsB l)) 5 ((Lib.bytesCells W1 5 (bsB l)).size, (Lib.bytesCells W1 5 (bsB l)).size + 1))) := Lib.hid (by rw [← hz1]; exact Lib.bytesWorld_at_new W1 _ _)
  have HC : Hid (∀ (W : World) k, W.heap[w.heap.size + 1]? = some (.cells (Lib.bytesCells W1 5 (bsB l)) 5 ((Lib.bytesCells W1 5 (bsB l)).size, (Lib.bytesCells W1 5 (bsB l)).size + 1)) → (h : k < l.length) → W.cell? ⟨w.heap.size + 1, k, none⟩ = some (.int .u8 (l[k]'h).toNat)) := Lib.hid fun W k hw h => by
    have h1 := Lib.bytesWorld_cell W1 5 (bsB l) k (by rw [bsB_size]; exact h)
    have h2 : W.cell? ⟨w.heap.size + 1, k, none⟩ = (Lib.bytesWorld W1 5 (bsB l)).cell? ⟨w.heap.size + 1, k, none⟩ := World.cell?_of_block (a := ⟨w.heap.size + 1, k, none⟩) (by rw [HD0.out]; exact hw)
    rw [h2, ← hz1, h1]
    simp [bsB, List.getD, h]
  generalize hobj : Obj.cells (Lib.bytesCells W1 5 (bsB l)) 5 ((Lib.bytesCells W1 5 (bsB l)).size, (Lib.bytesCells W1 5 (bsB l)).size + 1) = obj at *
  have HK0 : Hid (TB (w.heap.size + 2) w.heap.size (Lib.byteCells []) (Lib.bytesWorld W1 5 (bsB l))) := Lib.hid (.inl ⟨by omega, .slice none 0 0, by
    rw [Lib.bytesWorld_at_old W1 _ _ _ (by omega), hW1]; exact heap_alloc_new w _, World.ownsRow_nil _ _ _ _⟩)
  have HB0 : Hid (Below w.heap.size w (Lib.bytesWorld W1 5 (bsB l))) := Lib.hid ⟨by rw [hW1]; rfl, by rw [hW1]; rfl, by rw [hW1]; rfl, by rw [Lib.bytesWorld_size]; omega, fun k hk => by rw [Lib.bytesWorld_at_old W1 _ _ _ (by omega), hW1]; exact Below.heap_alloc w _ k hk⟩
  have HS0 : Hid (w.heap.size + 2 ≤ (Lib.bytesWorld W1 5 (bsB l)).heap.size) := Lib.hid (by rw [Lib.bytesWorld_size]; omega)
  rw [hz1, bsB_size, hW1] at hcv
  rw [hW1] at HD0 HK0 HB0 HS0
  clear hz1 hobj
  generalize Lib.bytesWorld (w.alloc (.cells #[.pointer none, .slice none 0 0] 48)) 5 (bsB l) = W2 at *
  generalize grownCap (w.alloc (.cells #[.pointer none, .slice none 0 0] 48)) l.length 0 5 = cp at *
  have hsz : ((bsB l).size : Int) = l.length := by rw [bsB_size]
  have HL := Lib.hid hl
  obtain ⟨s, hs⟩ : ∃ s, s = bsB l := ⟨_, rfl⟩
  rw [← hs] at hsz hcv ⊢
  obtain ⟨res, hres⟩ : ∃ res, res = bsB (escL l) := ⟨_, rfl⟩
  rw [← hres]
  have HR := Lib.hid hres
  have hli : (l.length : Int) ≤ 10000 := by omega
  clear hres hl hs hW1
  have HH : Hid (∀ k : Nat, k < 16 → ∀ W, (Instr.index 9 (.string ⟨#[48, 49, 50, 51, 52, 53, 54, 55, 56, 57, 97, 98, 99, 100, 101, 102]⟩) (.int .u8 (k : Nat))).run Tryd.prog W = .ok (.int .u8 (hexW k).toNat) W) := Lib.hid fun k hk W => by
    exact idx_u8 hexLow k (hexW k) (hex_at ⟨k, hk⟩) W
  go_enter Tryd.func14, Tryd.ntmps14
  go_wp2
  go_loopw [9] (fun q wr => ∃ k : Nat, q = .int .i64 k ∧ k ≤ l.length ∧ Hid (TB (w.heap.size + 2) w.heap.size (Lib.byteCells (escL (l.take k))) wr) ∧ Hid (wr.heap[w.heap.size + 1]? = some obj) ∧ Hid (w.heap.size + 2 ≤ wr.heap.size) ∧ Hid (Below w.heap.size w wr)) (fun q _ => l.length - (intOf q).toNat)
  case atStart => exact ⟨0, rfl, Nat.zero_le _, HK0, HD0, HS0, HB0⟩
  case round =>
    obtain ⟨k, rfl, hk, HK, HD, HS, HB⟩ := hrel
    clear HK0 HD0 HS0 HB0
    by_cases hlt : k < l.length
    · have hck := HC.out wr k HD.out hlt
      have HSN : Hid (Lib.byteCells (escL (l.take (k + 1))) = Lib.byteCells (escL (l.take k)) ++ Lib.byteCells (escB (l[k]'hlt))) := Lib.hid (by rw [escL_snoc l k hlt, byteCells_app])
      have hll : (Lib.byteCells (escL (l.take k))).length ≤ 40000 := by
        have h1 := escL_len (l.take k)
        have h2 := HL.out
        rw [List.length_take] at h1
        rw [byteCells_len]; omega
      have hki : (k : Int) < l.length := by omega
      have hz2 := HS.out
      generalize l[k]'hlt = c at *
      generalize hnx : Lib.byteCells (escL (l.take (k + 1))) = nx at *
      replace hnx := Lib.hid hnx
      generalize Lib.byteCells (escL (l.take k)) = pv at *
      have hn : c.toNat < 256 := c.toNat_lt
      have hb4 : ∀ wn, BU w.heap.size (w.heap.size + 2) wr wn → wn.heap[w.heap.size + 1]? = some obj ∧ w.heap.size + 2 ≤ wn.heap.size ∧ Below w.heap.size w wn := fun wn h => ⟨(h.block _ (by omega) (by omega)).trans HD.out, Nat.le_trans HS.out h.size, HB.out.trans (h.below (Nat.le_refl _) (by omega))⟩
      have HN := Lib.hid hb4
      clear hb4 HC
      by_cases h92 : c = 92
      · have hc : (c.toNat : Int) = 92 := by rw [h92]; rfl
        have HE : Hid (nx = pv ++ Lib.strCells ⟨#[92, 92]⟩) := Lib.hid (by rw [HSN.out]; unfold escB; rw [if_pos h92]; rfl)
        have HW := Lib.hid (writeStringT (w.heap.size + 2) w.heap.size pv ⟨#[92, 92]⟩ wr HK.out (by simp [ByteArray.size]; omega) HS.out)
        clear HSN h92 hll HK HD
        rw [hc] at hck
        clear hc hn
        generalize c.toNat = n at *
        generalize l.length = m at *
        go_wp2_with (go_at_call 31; (with_reducible refine (HW.out).mono ?_); rintro e w2 ⟨rfl, ht, hb⟩; have HT := Lib.hid ht; have HB2 := Lib.hid hb; clear ht hb)
        go_roundw
        case rel => exact ⟨k + 1, by go_num, hlt, Lib.hid (by rw [hnx.out, HE.out]; exact .inr HT.out), Lib.hid (HN.out _ HB2.out).1, Lib.hid (HN.out _ HB2.out).2.1, Lib.hid (HN.out _ HB2.out).2.2⟩
        case measure => simp [intOf]; omega
      · have hne : ¬ ((c.toNat : Int) = 92) := fun e => h92 (UInt8.toNat_inj.1 (by show c.toNat = 92; omega))
        have hneb : ((c.toNat : Int) == 92) = false := by simp; omega
        by_cases hp : numB c = true
        · have hq : ((c.toNat : Int) / 16) = ((c.toNat / 16 : Nat) : Int) := by omega
          have hr := and15 c.toNat hn
          have hx2 := HH.out (c.toNat / 16) (by omega)
          have hx3 := HH.out (c.toNat % 16) (by omega)
          have HE : Hid (nx = pv ++ [.int .u8 92, .int .u8 120, .int .u8 (hexW (c.toNat / 16)).toNat, .int .u8 (hexW (c.toNat % 16)).toNat]) := Lib.hid (by rw [HSN.out]; unfold escB; rw [if_neg h92, if_pos hp]; rfl)
          have hcs : c.toNat ≤ 32 ∨ c.toNat = 59 := by simpa [numB] using hp
          generalize (hexW (c.toNat / 16)).toNat = u1 at *
          generalize (hexW (c.toNat % 16)).toNat = u2 at *
          have HW : Hid (∀ W, Below wr.heap.size wr W → W.heap[wr.heap.size]? = some (.cells #[.int .u8 92, .int .u8 120, .int .u8 u1, .int .u8 u2] 5 (0, 0)) → Calls Tryd.prog 32 #[.pointer (some ⟨w.heap.size, 0, none⟩), .slice (some ⟨wr.heap.size, 0, none⟩) 4 4] W fun e w' => e = .returned (.tuple #[.int .i64 4, .nilIface]) ∧ TU (w.heap.size + 2) w.heap.size (pv ++ [.int .u8 92, .int .u8 120, .int .u8 u1, .int .u8 u2]) w' ∧ BU w.heap.size (w.heap.size + 2) wr w') := Lib.hid fun W hb hw => by
            have hs := HS.out
            refine (writeT (w.heap.size + 2) w.heap.size wr.heap.size 4 4 pv [.int .u8 92, .int .u8 120, .int .u8 u1, .int .u8 u2] W (TB.past HK.out hb) (by omega) (fun j u hj => ?_) rfl (by simp [Value.oneCell']) (by omega) (Nat.le_trans hs hb.size)).mono fun e w' ⟨h1, h2, h3⟩ => ⟨h1, h2, (BU.of_below hb hs).trans h3⟩
            have e : ((⟨wr.heap.size, 0, none⟩ : Addr).add j) = ⟨wr.heap.size, j, none⟩ := by unfold Addr.add; split <;> simp_all
            rw [e, cell_of_row _ _ j _ _ _ hw, ← hj]
            simp
          have HWA := Lib.hid (HW.out (wr.alloc (.cells #[.int .u8 92, .int .u8 120, .int .u8 u1, .int .u8 u2] 5)).drew (belA (Below.refl _ _) _).drew (heap_alloc_new wr _))
          clear HW
          clear HSN h92 hll HK HD hp hn
          generalize c.toNat / 16 = q at *
          generalize c.toNat % 16 = r at *
          generalize c.toNat = n at *
          generalize l.length = m at *
          rcases hcs with hcs | hcs
          · have hb5 : decide ((n : Int) ≤ 32) = true := by simp; omega
            go_wp2
            go_region_with (go_at_call 32; (with_reducible refine (HWA.out).mono ?_); rintro e w2 ⟨rfl, ht, hb⟩; have HT := Lib.hid ht; have HB2 := Lib.hid hb; clear ht hb)
            all_goals (try simp only [Exit.inBlock, Exit.then])
            all_goals (try go_wp2)
            all_goals (try go_roundw)
            all_goals first
              | exact ⟨k + 1, by go_num, hlt, Lib.hid (by rw [hnx.out, HE.out]; exact .inr HT.out), Lib.hid (HN.out _ HB2.out).1, Lib.hid (HN.out _ HB2.out).2.1, Lib.hid (HN.out _ HB2.out).2.2⟩
              | (simp [intOf]; omega)
              | exact ⟨⟨k + 1, by go_num, hlt, Lib.hid (by rw [hnx.out, HE.out]; exact .inr HT.out), Lib.hid (HN.out _ HB2.out).1, Lib.hid (HN.out _ HB2.out).2.1, Lib.hid (HN.out _ HB2.out).2.2⟩, by simp [intOf]; omega⟩
          · have hb5 : decide ((n : Int) ≤ 32) = false := by simp; omega
            have hb6 : ((n : Int) == 59) = true := by simp; omega
            clear hcs
            go_wp2
            go_region_with (go_at_call 32; (with_reducible refine (HWA.out).mono ?_); rintro e w2 ⟨rfl, ht, hb⟩; have HT := Lib.hid ht; have HB2 := Lib.hid hb; clear ht hb)
            all_goals (try simp only [Exit.inBlock, Exit.then])
            all_goals (try go_wp2)
            all_goals (try go_roundw)
            all_goals first
              | exact ⟨k + 1, by go_num, hlt, Lib.hid (by rw [hnx.out, HE.out]; exact .inr HT.out), Lib.hid (HN.out _ HB2.out).1, Lib.hid (HN.out _ HB2.out).2.1, Lib.hid (HN.out _ HB2.out).2.2⟩
              | (simp [intOf]; omega)
              | exact ⟨⟨k + 1, by go_num, hlt, Lib.hid (by rw [hnx.out, HE.out]; exact .inr HT.out), Lib.hid (HN.out _ HB2.out).1, Lib.hid (HN.out _ HB2.out).2.1, Lib.hid (HN.out _ HB2.out).2.2⟩, by simp [intOf]; omega⟩
        · have hcs : ¬ (c.toNat ≤ 32) ∧ ¬ (c.toNat = 59) := by simpa [numB] using hp
          obtain ⟨hcs1, hcs2⟩ := hcs
          have hb1 : (33 : Int) ≤ c.toNat := by omega
          have hb2 : ¬ ((c.toNat : Int) = 59) := by omega
          have hb4 : ((c.toNat : Int) == 59) = false := by simp; omega
          have hb5 : decide ((c.toNat : Int) ≤ 32) = false := by simp; omega
          have HE : Hid (nx = pv ++ [.int .u8 c.toNat]) := Lib.hid (by rw [HSN.out]; unfold escB; rw [if_neg h92, if_neg hp]; rfl)
          have HW := Lib.hid (writeByteT (w.heap.size + 2) w.heap.size pv c wr HK.out (by omega) HS.out)
          clear HSN h92 hll HK HD hp hcs1 hcs2
          generalize c.toNat = n at *
          generalize l.length = m at *
          go_wp2_with (go_at_call 33; (with_reducible refine (HW.out).mono ?_); rintro e w2 ⟨rfl, ht, hb⟩; have HT := Lib.hid ht; have HB2 := Lib.hid hb; clear ht hb)
          go_roundw
          case rel => exact ⟨k + 1, by go_num, hlt, Lib.hid (by rw [hnx.out, HE.out]; exact .inr HT.out), Lib.hid (HN.out _ HB2.out).1, Lib.hid (HN.out _ HB2.out).2.1, Lib.hid (HN.out _ HB2.out).2.2⟩
          case measure => simp [intOf]; omega
    · obtain rfl : k = l.length := by omega
      have hst : Hid (Calls Tryd.prog 34 #[.pointer (some ⟨w.heap.size, 0, none⟩)] wr fun e w' => e = .returned (.string res) ∧ Below w.heap.size w w') := Lib.hid (by
        have h2 := TB.at HK.out (Nat.le_refl w.heap.size)
        rw [HR.out]
        rw [List.take_length] at h2
        exact (Tryd.Builder_String_any w.heap.size w.heap.size (escL l) wr h2 HB.out.size).mono fun e w' ⟨h1, h3⟩ => ⟨h1, HB.out.trans h3⟩)
      go_wp2_with (go_at_call 34; (with_reducible refine (hst.out).mono ?_); rintro e w2 ⟨rfl, hb2⟩; have HB2 := Lib.hid hb2; clear hb2)
      go_ret
      exact ⟨rfl, HB2.out⟩
end Go.Proofs.YtkkhlmilcdlfoaaDoor
