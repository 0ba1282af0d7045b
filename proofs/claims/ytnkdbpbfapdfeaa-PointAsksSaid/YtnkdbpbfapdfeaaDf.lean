/- The program's Shift. -/
import Derived.Test.YtnkdbpbfapdfeaaDe
import Derived.Deep.RegionWith
namespace Go.Proofs.Ytnkdbpbfapdfeaa
open Go.RowKit

def mv (k a n : Int) (p : Int × Int) : Int × Int := moveZ p.1 p.2 k a n
def shiftL (k a n : Int) (L : List (Int × Int)) : List (Int × Int) := (if k = 2 then L.filter (keepB k a n) else L).map (mv k a n)
/-- The first i are moved. -/
def mvd (k a n : Int) (L : List (Int × Int)) (i : Nat) : List (Int × Int) := (L.take i).map (mv k a n) ++ L.drop i
theorem mvd_len (k a n : Int) (L : List (Int × Int)) (i : Nat) : (mvd k a n L i).length = L.length := by
  unfold mvd
  rw [List.length_append, List.length_map, List.length_take, List.length_drop]
  omega
theorem mvd_zero (k a n : Int) (L : List (Int × Int)) : mvd k a n L 0 = L := rfl
theorem mvd_all (k a n : Int) (L : List (Int × Int)) : mvd k a n L L.length = L.map (mv k a n) := by
  unfold mvd
  rw [List.take_of_length_le (Nat.le_refl _), List.drop_length, List.append_nil]
theorem mvd_at (k a n : Int) (L : List (Int × Int)) (i : Nat) (h : i < L.length) : At (mvd k a n L i) i = At L i := by
  unfold At mvd
  rw [List.getElem?_append_right (by simp; omega)]
  simp [Nat.min_eq_left (Nat.le_of_lt h)]
theorem mvd_set (k a n : Int) (L : List (Int × Int)) (i : Nat) (h : i < L.length) : (mvd k a n L i).set i (mv k a n (At L i)) = mvd k a n L (i + 1) := by
  have hl : ((L.take i).map (mv k a n)).length = i := by simp; omega
  unfold mvd
  rw [List.set_append_right _ _ (by omega), hl, Nat.sub_self, take_one L i h, List.map_append, List.append_assoc]
  congr 1
  rw [List.drop_eq_getElem_cons h]
  rfl
theorem OR.rpl2 {w : World} {v : Value} {L : List (Int × Int)} {A : Option Addr} {n c : Nat} (h : OR w v n (plC L)) (hn : n = L.length) (hv : v = .slice A n c) : RPl w w.heap.size A L := by
  subst hn
  exact h.rpl hv
theorem PM.renew {wa w2 : World} {D : Nat} {v v1 : Value} {most : Int} {L L1 : List (Int × Int)} (h : PM wa D v most L) (hk : KB (fun i => some i = v.ownBlock) wa w2) (ho : OR w2 v1 L1.length (plC L1)) :
    (w2.cell? ⟨D, 0, none⟩ = some v ∧ w2.frozen? ⟨D, 0, none⟩ = false) ∧ PM (w2.setCell ⟨D, 0, none⟩ v1) D v1 most L1 ∧ KB (fun i => i = D ∨ some i = v.ownBlock) wa (w2.setCell ⟨D, 0, none⟩ v1) := by
  have hd : w2.heap[D]? = _ := (hk.block D h.lt (fun e => h.ne D e.symm rfl)).trans h.d
  refine ⟨⟨cell_of_row _ _ 0 _ _ _ hd, by simp [World.frozen?, hd]⟩, ⟨heap_setCell_same w2 D 0 _ _ v1 hd, ho.kept (KB.set (S := fun i => i = D) 0 v1 rfl) fun g hg e => ?_⟩, KB.trans (S := fun i => i = D ∨ some i = v.ownBlock) ⟨hk.os, hk.tape, hk.output, hk.size, fun i hi hS => hk.block i hi (fun e => hS (.inr e))⟩ (KB.set (S := fun i => i = D) 0 v1 rfl) fun _ _ e => .inl e⟩
  obtain ⟨cur, hc⟩ := (ho.lt g hg).2
  rw [e, hd] at hc
  injection hc with hc
  injection hc with _ h1 _
  exact absurd h1 (by decide)
set_option maxRecDepth 100000 in
set_option maxHeartbeats 8000000 in
theorem shift_not {w : World} {D : Nat} {v : Value} {most : Int} {L : List (Int × Int)} (h : PM w D v most L) (k a n : Int) (hk : k ≠ 2) (hl : L.length ≤ 1000000) :
    Calls Try.prog 25 #[.pointer (some ⟨D, 0, none⟩), .agg #[.int .i64 k, .int .i64 a, .int .i64 n]] w fun e w' => e = .returned (.tuple #[]) ∧ PPost w D v most (shiftL k a n L) w' := by
  obtain ⟨A, c, rfl⟩ := h.row.shape
  have HM := Lib.hid h
  have HSH : Hid (shiftL k a n L = L.map (mv k a n)) := Lib.hid (by rw [shiftL, if_neg hk])
  have hkb : (k == 2) = false := by simpa using hk
  have hDl := h.lt
  obtain ⟨⟨d0, d1⟩, df⟩ := h.cells
  clear h hk
  go_enter Try.func25, Try.ntmps25
  go_wp2_with fail
  have HP := Lib.hid (HM.out.past (belA (Below.refl _ _) (.cells #[.int .i64 k, .int .i64 a, .int .i64 n] 32)))
  have HQ := Lib.hid (heap_alloc_new w (.cells #[.int .i64 k, .int .i64 a, .int .i64 n] 32))
  have HK : Hid (KB (fun i => i = D ∨ some i = (Value.slice A L.length c).ownBlock) w (w.alloc (.cells #[.int .i64 k, .int .i64 a, .int .i64 n] 32))) := Lib.hid (KB.of_below (belA (Below.refl _ _) _))
  have HOB : Hid ((Value.slice A L.length c).ownBlock = (Value.slice A L.length c).ownBlock) := Lib.hid rfl
  generalize w.alloc (.cells #[.int .i64 k, .int .i64 a, .int .i64 n] 32) = wz at *
  clear d0 d1 df
  generalize w.heap.size = Q at *
  go_loopw [25] (fun q wr => ∃ i : Nat, q = .int .i64 i ∧ i ≤ L.length ∧ Hid (OR wr (.slice A L.length c) L.length (plC (mvd k a n L i))) ∧ Hid (KB (fun i => some i = (Value.slice A L.length c).ownBlock) wz wr)) (fun q _ => L.length - (intOf q).toNat)
  case atStart => exact ⟨0, rfl, Nat.zero_le _, Lib.hid (by rw [mvd_zero]; exact HP.out.row), Lib.hid (KB.refl _ _)⟩
  case round =>
    obtain ⟨i, rfl, hi, HO, HKB⟩ := hrel
    by_cases hlt : i < L.length
    · have hki : (i : Int) < L.length := by omega
      obtain ⟨b, off, rfl, _, _⟩ := (HO.out.rpl2 (by rw [mvd_len]) rfl) (fun e => by have := mvd_len k a n L i; rw [e] at this; simp at this; omega)
      obtain ⟨a0, a1, af⟩ := HO.out.two i (by rw [mvd_len]; exact hlt)
      rw [mvd_at k a n L i hlt] at a0 a1
      have hbl : b < wr.heap.size := (HO.out.lt b rfl).1
      have hbD : b ≠ D := HP.out.ne b rfl
      have hbQ : b ≠ Q := fun e => by
        obtain ⟨cur, hc⟩ := (HP.out.row.lt b rfl).2
        rw [e, HQ.out] at hc
        injection hc with hc
        injection hc with _ h1 _
        exact absurd h1 (by decide)
      have hdr : wr.heap[D]? = _ := (HKB.out.block D HP.out.lt (fun e => hbD (by simpa [Value.ownBlock] using e.symm))).trans HP.out.d
      have hqr : wr.heap[Q]? = _ := (HKB.out.block Q (Array.getElem?_eq_some_iff.1 HQ.out).1 (fun e => hbQ (by simpa [Value.ownBlock] using e.symm))).trans HQ.out
      have hDl := (Array.getElem?_eq_some_iff.1 hdr).1
      have hQl := (Array.getElem?_eq_some_iff.1 hqr).1
      have HSET := Lib.hid (mvd_set k a n L i hlt)
      have HMV := Lib.hid (move_any (At L i).1 (At L i).2 k a n)
      have hmve : moveZ (At L i).1 (At L i).2 k a n = mv k a n (At L i) := rfl
      rw [hmve] at HMV
      have HHD := Lib.hid hdr
      have HHQ := Lib.hid hqr
      have HW : Hid (∀ x w2, Below (wr.alloc (.cells #[.int .i64 (At L i).1, .int .i64 (At L i).2] 30)).drew.heap.size (wr.alloc (.cells #[.int .i64 (At L i).1, .int .i64 (At L i).2] 30)).drew w2 → x = mv k a n (At L i) → (w2.cell? ⟨D, 0, none⟩ = some (.slice (some ⟨b, off, none⟩) L.length c) ∧ w2.cell? ⟨b, off + i * 2, none⟩ = some (.int .i64 (At L i).1) ∧ w2.cell? ⟨b, off + i * 2 + 1, none⟩ = some (.int .i64 (At L i).2) ∧ (∀ t, w2.frozen? ⟨b, t, none⟩ = false)) ∧ OR ((w2.setCell ⟨b, off + i * 2, none⟩ (.int .i64 x.1)).setCell ⟨b, off + i * 2 + 1, none⟩ (.int .i64 x.2)) (.slice (some ⟨b, off, none⟩) L.length c) L.length (plC (mvd k a n L (i + 1))) ∧ KB (fun i => some i = (Value.slice (some ⟨b, off, none⟩) L.length c).ownBlock) wz ((w2.setCell ⟨b, off + i * 2, none⟩ (.int .i64 x.1)).setCell ⟨b, off + i * 2 + 1, none⟩ (.int .i64 x.2))) := Lib.hid fun x w2 hb hx => by
        have hb2 : Below wr.heap.size wr w2 := bel0 (belA (Below.refl _ _) _) (belD hb)
        have ho2 := HO.out.kept (KB.of_below (S := fun _ => False) hb2) (fun _ _ e => e)
        obtain ⟨e0, e1, ef⟩ := ho2.two i (by rw [mvd_len]; exact hlt)
        rw [mvd_at k a n L i hlt] at e0 e1
        refine ⟨⟨(hb2.cell (p := ⟨D, 0, none⟩) hDl).trans (cell_of_row _ _ 0 _ _ _ HHD.out), e0, e1, ef⟩, ?_, ((HKB.out.trans (KB.of_below (S := fun _ => False) hb2) (fun _ _ e => e.elim)).trans (KB.set (S := fun i => i = b) _ _ rfl) (fun _ _ e => by rw [e]; rfl)).trans (KB.set (S := fun i => i = b) _ _ rfl) (fun _ _ e => by rw [e]; rfl)⟩
        rw [hx, ← HSET.out]
        exact ho2.setP i (by rw [mvd_len]; exact hlt) _
      have d0 : wr.cell? ⟨D, 0, none⟩ = some (.slice (some ⟨b, off, none⟩) L.length c) := cell_of_row _ _ 0 _ _ _ hdr
      have q0 := cell_of_row _ _ 0 _ _ _ hqr
      have q1 := cell_of_row _ _ 1 _ _ _ hqr
      have q2 := cell_of_row _ _ 2 _ _ _ hqr
      clear hdr hqr HO HKB HHD HHQ HSET hmve
      generalize mv k a n (At L i) = y at *
      generalize At L i = x at *
      go_wp2
      go_region_with (go_at_call 42; (with_reducible refine (HMV.out _).mono ?_); rintro e w2 ⟨rfl, hb⟩; obtain ⟨⟨z0, z1, z2, zf⟩, hZ⟩ := HW.out y _ hb rfl; have HZ := Lib.hid hZ; clear hb hZ)
      all_goals
        go_wp2
        go_roundw
        case rel => exact ⟨i + 1, by go_num, hlt, Lib.hid HZ.out.1, Lib.hid HZ.out.2⟩
        case measure => simp [intOf]; omega
    · obtain rfl : i = L.length := by omega
      have hjj : ¬ (L.length : Int) < L.length := by omega
      have HF : Hid (PPost w D (.slice A L.length c) most (L.map (mv k a n)) wr) := Lib.hid (by
        have hd : wr.heap[D]? = _ := (HKB.out.block D HP.out.lt (fun e => HP.out.ne D e.symm rfl)).trans HP.out.d
        refine ⟨_, ⟨hd, ?_⟩, HK.out.trans HKB.out (fun i _ e => .inr (by rw [← HOB.out]; exact e)), .inl HOB.out⟩
        have := HO.out
        rw [mvd_all] at this
        rw [List.length_map]
        exact this)
      clear HO HKB
      go_wp2
      go_end0
      exact ⟨rfl, by rw [HSH.out]; exact HF.out⟩
set_option maxRecDepth 100000 in
set_option maxHeartbeats 8000000 in
theorem shift_two {w : World} {D : Nat} {v : Value} {most : Int} {L : List (Int × Int)} (h : PM w D v most L) (k a n : Int) (hk : k = 2) (hl : L.length ≤ 1000000) :
    Calls Try.prog 25 #[.pointer (some ⟨D, 0, none⟩), .agg #[.int .i64 k, .int .i64 a, .int .i64 n]] w fun e w' => e = .returned (.tuple #[]) ∧ PPost w D v most (shiftL k a n L) w' := by
  obtain ⟨A, c, rfl⟩ := h.row.shape
  have HM := Lib.hid h
  have HSH : Hid (shiftL k a n L = (L.filter (keepB k a n)).map (mv k a n)) := Lib.hid (by rw [shiftL, if_pos hk])
  have hkb : (k == 2) = true := by simpa using hk
  have hDl := h.lt
  obtain ⟨⟨d0, d1⟩, df⟩ := h.cells
  have hll : (L.filter (keepB k a n)).length ≤ 1000000 := Nat.le_trans (List.length_filter_le _ _) hl
  have HA := Lib.hid (h.past (belA (Below.refl _ _) (.cells #[.int .i64 k, .int .i64 a, .int .i64 n] 32)))
  have HDEL := Lib.hid (deleteLost_any w.heap.size k a n (.slice A L.length c) L hl (w.alloc (.cells #[.int .i64 k, .int .i64 a, .int .i64 n] 32)) HA.out.row (heap_alloc_new w _))
  have HB0 : Hid (Below w.heap.size w (w.alloc (.cells #[.int .i64 k, .int .i64 a, .int .i64 n] 32))) := Lib.hid (belA (Below.refl _ _) _)
  have HQ0 := Lib.hid (heap_alloc_new w (.cells #[.int .i64 k, .int .i64 a, .int .i64 n] 32))
  have HRN : Hid (∀ w2 v1 L1, KB (fun i => some i = (Value.slice A L.length c).ownBlock) (w.alloc (.cells #[.int .i64 k, .int .i64 a, .int .i64 n] 32)) w2 → OR w2 v1 L1.length (plC L1) → (w2.cell? ⟨D, 0, none⟩ = some (.slice A L.length c) ∧ w2.frozen? ⟨D, 0, none⟩ = false) ∧ PM (w2.setCell ⟨D, 0, none⟩ v1) D v1 most L1 ∧ KB (fun i => i = D ∨ some i = (Value.slice A L.length c).ownBlock) w (w2.setCell ⟨D, 0, none⟩ v1) ∧ (w2.setCell ⟨D, 0, none⟩ v1).heap[w.heap.size]? = some (.cells #[.int .i64 k, .int .i64 a, .int .i64 n] 32 (0, 0)) ∧ w.heap.size < (w2.setCell ⟨D, 0, none⟩ v1).heap.size) := Lib.hid fun w2 v1 L1 hk2 ho2 => by
    obtain ⟨h1, h2, h3⟩ := HA.out.renew hk2 ho2
    have hq : (w2.setCell ⟨D, 0, none⟩ v1).heap[w.heap.size]? = some (.cells #[.int .i64 k, .int .i64 a, .int .i64 n] 32 (0, 0)) := (h3.block w.heap.size (by simp) (fun e => by
      rcases e with e | e
      · omega
      · have := (HM.out.row.lt _ e.symm).1
        omega)).trans HQ0.out
    exact ⟨h1, h2, (KB.of_below (S := fun i => i = D ∨ some i = (Value.slice A L.length c).ownBlock) HB0.out).trans h3 fun _ _ e => e, hq, (Array.getElem?_eq_some_iff.1 hq).1⟩
  clear h hk
  generalize L.filter (keepB k a n) = L1 at *
  go_enter Try.func25, Try.ntmps25
  go_wp2_with (go_at_call 39; (with_reducible refine (HDEL.out).mono ?_); rintro e w2 ⟨v1, rfl, ho, hkb2, hob⟩; obtain ⟨A1, c1, rfl⟩ := ho.shape; obtain ⟨⟨e0, ef⟩, hp, hk1, hq, hqs⟩ := HRN.out _ _ _ hkb2 ho; have HP := Lib.hid hp; have HK := Lib.hid hk1; have HQ := Lib.hid hq; have HOB := Lib.hid hob; have d00 := hp.cells.1.1; clear ho hkb2 hp hk1 hq hob)
  clear d0 d1 df HRN HQ0 HB0 HDEL HA e0 ef d00
  generalize w2.setCell ⟨D, 0, none⟩ (.slice A1 L1.length c1) = wz at *
  generalize w.heap.size = Q at *
  go_loopw [25] (fun q wr => ∃ i : Nat, q = .int .i64 i ∧ i ≤ L1.length ∧ Hid (OR wr (.slice A1 L1.length c1) L1.length (plC (mvd k a n L1 i))) ∧ Hid (KB (fun i => some i = (Value.slice A1 L1.length c1).ownBlock) wz wr)) (fun q _ => L1.length - (intOf q).toNat)
  case atStart => exact ⟨0, rfl, Nat.zero_le _, Lib.hid (by rw [mvd_zero]; exact HP.out.row), Lib.hid (KB.refl _ _)⟩
  case round =>
    obtain ⟨i, rfl, hi, HO, HKB⟩ := hrel
    by_cases hlt : i < L1.length
    · have hki : (i : Int) < L1.length := by omega
      obtain ⟨b, off, rfl, _, _⟩ := (HO.out.rpl2 (by rw [mvd_len]) rfl) (fun e => by have := mvd_len k a n L1 i; rw [e] at this; simp at this; omega)
      obtain ⟨a0, a1, af⟩ := HO.out.two i (by rw [mvd_len]; exact hlt)
      rw [mvd_at k a n L1 i hlt] at a0 a1
      have hbl : b < wr.heap.size := (HO.out.lt b rfl).1
      have hbD : b ≠ D := HP.out.ne b rfl
      have hbQ : b ≠ Q := fun e => by
        obtain ⟨cur, hc⟩ := (HP.out.row.lt b rfl).2
        rw [e, HQ.out] at hc
        injection hc with hc
        injection hc with _ h1 _
        exact absurd h1 (by decide)
      have hdr : wr.heap[D]? = _ := (HKB.out.block D HP.out.lt (fun e => hbD (by simpa [Value.ownBlock] using e.symm))).trans HP.out.d
      have hqr : wr.heap[Q]? = _ := (HKB.out.block Q (Array.getElem?_eq_some_iff.1 HQ.out).1 (fun e => hbQ (by simpa [Value.ownBlock] using e.symm))).trans HQ.out
      have hDl := (Array.getElem?_eq_some_iff.1 hdr).1
      have hQl := (Array.getElem?_eq_some_iff.1 hqr).1
      have HSET := Lib.hid (mvd_set k a n L1 i hlt)
      have HMV := Lib.hid (move_any (At L1 i).1 (At L1 i).2 k a n)
      have hmve : moveZ (At L1 i).1 (At L1 i).2 k a n = mv k a n (At L1 i) := rfl
      rw [hmve] at HMV
      have HHD := Lib.hid hdr
      have HHQ := Lib.hid hqr
      have HW : Hid (∀ x w2, Below (wr.alloc (.cells #[.int .i64 (At L1 i).1, .int .i64 (At L1 i).2] 30)).drew.heap.size (wr.alloc (.cells #[.int .i64 (At L1 i).1, .int .i64 (At L1 i).2] 30)).drew w2 → x = mv k a n (At L1 i) → (w2.cell? ⟨D, 0, none⟩ = some (.slice (some ⟨b, off, none⟩) L1.length c1) ∧ w2.cell? ⟨b, off + i * 2, none⟩ = some (.int .i64 (At L1 i).1) ∧ w2.cell? ⟨b, off + i * 2 + 1, none⟩ = some (.int .i64 (At L1 i).2) ∧ (∀ t, w2.frozen? ⟨b, t, none⟩ = false)) ∧ OR ((w2.setCell ⟨b, off + i * 2, none⟩ (.int .i64 x.1)).setCell ⟨b, off + i * 2 + 1, none⟩ (.int .i64 x.2)) (.slice (some ⟨b, off, none⟩) L1.length c1) L1.length (plC (mvd k a n L1 (i + 1))) ∧ KB (fun i => some i = (Value.slice (some ⟨b, off, none⟩) L1.length c1).ownBlock) wz ((w2.setCell ⟨b, off + i * 2, none⟩ (.int .i64 x.1)).setCell ⟨b, off + i * 2 + 1, none⟩ (.int .i64 x.2))) := Lib.hid fun x w2 hb hx => by
        have hb2 : Below wr.heap.size wr w2 := bel0 (belA (Below.refl _ _) _) (belD hb)
        have ho2 := HO.out.kept (KB.of_below (S := fun _ => False) hb2) (fun _ _ e => e)
        obtain ⟨e0, e1, ef⟩ := ho2.two i (by rw [mvd_len]; exact hlt)
        rw [mvd_at k a n L1 i hlt] at e0 e1
        refine ⟨⟨(hb2.cell (p := ⟨D, 0, none⟩) hDl).trans (cell_of_row _ _ 0 _ _ _ HHD.out), e0, e1, ef⟩, ?_, ((HKB.out.trans (KB.of_below (S := fun _ => False) hb2) (fun _ _ e => e.elim)).trans (KB.set (S := fun i => i = b) _ _ rfl) (fun _ _ e => by rw [e]; rfl)).trans (KB.set (S := fun i => i = b) _ _ rfl) (fun _ _ e => by rw [e]; rfl)⟩
        rw [hx, ← HSET.out]
        exact ho2.setP i (by rw [mvd_len]; exact hlt) _
      have d0 : wr.cell? ⟨D, 0, none⟩ = some (.slice (some ⟨b, off, none⟩) L1.length c1) := cell_of_row _ _ 0 _ _ _ hdr
      have q0 := cell_of_row _ _ 0 _ _ _ hqr
      have q1 := cell_of_row _ _ 1 _ _ _ hqr
      have q2 := cell_of_row _ _ 2 _ _ _ hqr
      clear hdr hqr HO HKB HHD HHQ HSET hmve
      generalize mv k a n (At L1 i) = y at *
      generalize At L1 i = x at *
      go_wp2
      go_region_with (go_at_call 42; (with_reducible refine (HMV.out _).mono ?_); rintro e w2 ⟨rfl, hb⟩; obtain ⟨⟨z0, z1, z2, zf⟩, hZ⟩ := HW.out y _ hb rfl; have HZ := Lib.hid hZ; clear hb hZ)
      all_goals
        go_wp2
        go_roundw
        case rel => exact ⟨i + 1, by go_num, hlt, Lib.hid HZ.out.1, Lib.hid HZ.out.2⟩
        case measure => simp [intOf]; omega
    · obtain rfl : i = L1.length := by omega
      have hjj : ¬ (L1.length : Int) < L1.length := by omega
      have HF : Hid (PPost w D (.slice A L.length c) most (L1.map (mv k a n)) wr) := Lib.hid (by
        have hd : wr.heap[D]? = _ := (HKB.out.block D HP.out.lt (fun e => HP.out.ne D e.symm rfl)).trans HP.out.d
        refine ⟨_, ⟨hd, ?_⟩, HK.out.trans HKB.out (fun i _ e => .inr (by rw [← HOB.out]; exact e)), .inl HOB.out⟩
        have := HO.out
        rw [mvd_all] at this
        rw [List.length_map]
        exact this)
      clear HO HKB
      go_wp2
      go_end0
      exact ⟨rfl, by rw [HSH.out]; exact HF.out⟩
theorem shift_any {w : World} {D : Nat} {v : Value} {most : Int} {L : List (Int × Int)} (h : PM w D v most L) (k a n : Int) (hl : L.length ≤ 1000000) :
    Calls Try.prog 25 #[.pointer (some ⟨D, 0, none⟩), .agg #[.int .i64 k, .int .i64 a, .int .i64 n]] w fun e w' => e = .returned (.tuple #[]) ∧ PPost w D v most (shiftL k a n L) w' := by
  by_cases hk : k = 2
  · exact shift_two h k a n hk hl
  · exact shift_not h k a n hk hl
end Go.Proofs.Ytnkdbpbfapdfeaa
