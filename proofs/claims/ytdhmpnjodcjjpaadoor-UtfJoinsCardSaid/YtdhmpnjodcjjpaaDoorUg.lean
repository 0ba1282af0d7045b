/- The walk of the reference's number: what bytes say, if they were a scalar's. -/
import Derived.Test.YtdhmpnjodcjjpaaDoorUf
namespace Go.Proofs.YtdhmpnjodcjjpaaDoor
open Go.RowKit

/-- The number behind k bytes. -/
def accZ (lo : Nat) (zs : List Nat) : Nat → Int
  | 0 => 0
  | 1 => ((zs[0]?.getD 0 : Nat) : Int) - lo
  | k + 2 => 64 * accZ lo zs (k + 1) + ((zs[k + 1]?.getD 0 : Nat) : Int) - 128
def contB (zs : List Nat) (n : Nat) : Bool := (List.range n).all fun j => decide (j = 0) || (decide (128 ≤ zs[j]?.getD 0) && decide (zs[j]?.getD 0 ≤ 191))
def numN (lo wd n : Nat) (zs : List Nat) : Int :=
  if zs[0]?.getD 0 < lo ∨ lo + wd ≤ zs[0]?.getD 0 then -1 else if contB zs n = true then accZ lo zs n else -1
def numZ (zs : List Nat) : Int :=
  if zs.length = 1 then ((zs[0]?.getD 0 : Nat) : Int) else if zs.length = 2 then numN 192 32 2 zs else if zs.length = 3 then numN 224 16 3 zs else if zs.length = 4 then numN 240 8 4 zs else -1
theorem contB_succ (zs : List Nat) (k : Nat) (hk : 1 ≤ k) : contB zs (k + 1) = (contB zs k && (decide (128 ≤ zs[k]?.getD 0) && decide (zs[k]?.getD 0 ≤ 191))) := by
  unfold contB
  rw [List.range_succ, List.all_append]
  have : ¬ k = 0 := by omega
  simp [this]
theorem contB_no (zs : List Nat) (k n : Nat) (hk : 1 ≤ k) (hkn : k < n) (h : zs[k]?.getD 0 < 128 ∨ 191 < zs[k]?.getD 0) : contB zs n = false := by
  unfold contB
  rw [List.all_eq_false]
  exact ⟨k, List.mem_range.2 hkn, by simp; omega⟩
theorem accZ_bd (lo wd : Nat) (hw : wd ≤ 32) (zs : List Nat) (h0 : lo ≤ zs[0]?.getD 0) (h1 : zs[0]?.getD 0 < lo + wd) : ∀ k, k ≤ 4 → contB zs k = true → 0 ≤ accZ lo zs k ∧ accZ lo zs k < 32 * 64 ^ (k - 1)
  | 0, _, _ => by simp [accZ]
  | 1, _, _ => by simp [accZ]; omega
  | k + 2, hk, hc => by
    rw [contB_succ zs (k + 1) (by omega)] at hc
    simp only [Bool.and_eq_true, decide_eq_true_eq] at hc
    have ih := accZ_bd lo wd hw zs h0 h1 (k + 1) (by omega) hc.1
    rw [accZ]
    have e : k + 2 - 1 = (k + 1 - 1) + 1 := by omega
    rw [e, Int.pow_succ]
    generalize accZ lo zs (k + 1) = a at *
    generalize (64 : Int) ^ (k + 1 - 1) = p at *
    omega
theorem accZ_bd' (lo wd : Nat) (hw : wd ≤ 32) (zs : List Nat) (h0 : lo ≤ zs[0]?.getD 0) (h1 : zs[0]?.getD 0 < lo + wd) (k : Nat) (hk : k ≤ 4) (hc : contB zs k = true) : 0 ≤ accZ lo zs k ∧ accZ lo zs k ≤ 8388608 := by
  have h := accZ_bd lo wd hw zs h0 h1 k hk hc
  have hp : (64 : Int) ^ (k - 1) ≤ 262144 := by
    rcases (by omega : k = 0 ∨ k = 1 ∨ k = 2 ∨ k = 3 ∨ k = 4) with rfl | rfl | rfl | rfl | rfl <;> decide
  omega

theorem number_0 (A : Option Addr) (c : Nat) (w : World) : Calls Tryd.prog 27 #[.slice A 0 c] w fun e w' => e = .returned (.int .i32 (-1)) ∧ Below w.heap.size w w' := by
  go_enter Tryd.func27, Tryd.ntmps27
  go_wp2
  go_ret
  exact ⟨rfl, Below.refl _ _⟩
theorem number_5 (A : Option Addr) (n c : Nat) (hn : 4 < n) (w : World) : Calls Tryd.prog 27 #[.slice A n c] w fun e w' => e = .returned (.int .i32 (-1)) ∧ Below w.heap.size w w' := by
  have hnz : ((n : Int) == 0) = false := by simp; omega
  have hn4 : (4 : Int) < n := by omega
  go_enter Tryd.func27, Tryd.ntmps27
  go_wp2
  go_ret
  exact ⟨rfl, Below.refl _ _⟩
theorem number_1 (b off c z : Nat) (w : World) (hz : z < 256) (hc : w.cell? ⟨b, off, none⟩ = some (.int .u8 z)) : Calls Tryd.prog 27 #[.slice (some ⟨b, off, none⟩) 1 c] w fun e w' => e = .returned (.int .i32 z) ∧ Below w.heap.size w w' := by
  have hz0 : (z : Int) < 256 := by omega
  go_enter Tryd.func27, Tryd.ntmps27
  go_wp2
  go_ret
  exact ⟨rfl, Below.refl _ _⟩

set_option maxRecDepth 100000 in
set_option maxHeartbeats 1000000 in
theorem number_2 (b off c : Nat) (zs : List Nat) (hn : zs.length = 2) (w : World) (hR : BS w w.heap.size (some ⟨b, off, none⟩) zs) :
    Calls Tryd.prog 27 #[.slice (some ⟨b, off, none⟩) 2 c] w fun e w' => e = .returned (.int .i32 (numN 192 32 2 zs)) ∧ Below w.heap.size w w' := by
  obtain ⟨b', off', e, hb, hc⟩ := hR.2 (by rintro rfl; simp at hn)
  obtain ⟨rfl, rfl⟩ : b = b' ∧ off = off' := by simpa using e
  have HZ : Hid (∀ k, zs[k]?.getD 0 < 256) := Lib.hid fun k => by
    rcases Nat.lt_or_ge k zs.length with h | h
    · rw [List.getElem?_eq_getElem h]; exact hR.1 _ (List.getElem_mem _)
    · rw [List.getElem?_eq_none h]; decide
  have hc0 : w.cell? ⟨b, off, none⟩ = some (.int .u8 (zs[0]?.getD 0 : Nat)) := hc 0 (by omega)
  have HC : Hid (∀ W, Below w.heap.size w W → ∀ k, k < 2 → W.cell? ⟨b, off + k, none⟩ = some (.int .u8 (zs[k]?.getD 0 : Nat))) := Lib.hid fun W hW k hk => (hW.cell (p := ⟨b, off + k, none⟩) hb).trans (hc k (by omega))
  have h256 := HZ.out 0
  have h256' : ((zs[0]?.getD 0 : Nat) : Int) < 256 := by omega
  have hA : Below w.heap.size w (w.alloc (.cells #[.int .i32 0, .int .i32 0, .int .i32 192, .int .i32 224, .int .i32 240] 21)) := (Below.refl _ _).alloc (Nat.le_refl _) _
  have hA2 : Below w.heap.size w ((w.alloc (.cells #[.int .i32 0, .int .i32 0, .int .i32 192, .int .i32 224, .int .i32 240] 21)).alloc (.cells #[.int .i32 0, .int .i32 0, .int .i32 32, .int .i32 16, .int .i32 8] 21)) := hA.alloc hA.size _
  have k0 := (hA.cell (p := ⟨b, off, none⟩) hb).trans hc0
  have k2 := (hA2.cell (p := ⟨b, off, none⟩) hb).trans hc0
  have HA := Lib.hid hA
  have HA2 := Lib.hid hA2
  clear hc hR hA hA2
  by_cases g1 : zs[0]?.getD 0 < 192
  · have HN : Hid (numN 192 32 2 zs = -1) := Lib.hid (by unfold numN; rw [if_pos (.inl g1)])
    have g1' : ((zs[0]?.getD 0 : Nat) : Int) < 192 := by omega
    generalize zs[0]?.getD 0 = z at *
    go_enter Tryd.func27, Tryd.ntmps27
    go_wp2
    go_ret
    exact ⟨by rw [HN.out]; rfl, HA.out⟩
  · by_cases g2 : 192 + 32 ≤ zs[0]?.getD 0
    · have HN : Hid (numN 192 32 2 zs = -1) := Lib.hid (by unfold numN; rw [if_pos (.inr g2)])
      have g1' : (192 : Int) ≤ ((zs[0]?.getD 0 : Nat) : Int) := by omega
      have g2' : (192 + 32 : Int) ≤ ((zs[0]?.getD 0 : Nat) : Int) := by omega
      generalize zs[0]?.getD 0 = z at *
      go_enter Tryd.func27, Tryd.ntmps27
      go_wp2
      go_ret
      exact ⟨by rw [HN.out]; rfl, HA2.out⟩
    · have HN : Hid (numN 192 32 2 zs = if contB zs 2 = true then accZ 192 zs 2 else -1) := Lib.hid (by unfold numN; rw [if_neg (by omega)])
      have g1' : (192 : Int) ≤ ((zs[0]?.getD 0 : Nat) : Int) := by omega
      have g2' : ((zs[0]?.getD 0 : Nat) : Int) < (192 + 32 : Int) := by omega
      have HBD : Hid (∀ k, k ≤ 4 → contB zs k = true → 0 ≤ accZ 192 zs k ∧ accZ 192 zs k ≤ 8388608) := Lib.hid fun k => accZ_bd' 192 32 (by omega) zs (by omega) (by omega) k
      have H1 : Hid (accZ 192 zs 1 = ((zs[0]?.getD 0 : Nat) : Int) - 192) := Lib.hid rfl
      generalize zs[0]?.getD 0 = z at *
      go_enter Tryd.func27, Tryd.ntmps27
      go_wp2
      go_loopw [5, 6] (fun r i wr => ∃ k : Nat, 1 ≤ k ∧ k ≤ 2 ∧ i = .int .i64 k ∧ r = .int .i32 (accZ 192 zs k) ∧ Hid (contB zs k = true) ∧ Hid (Below w.heap.size w wr)) (fun _ i _ => 2 - (intOf i).toNat)
      case atStart => exact ⟨1, Nat.le_refl _, by omega, rfl, by rw [H1.out], Lib.hid rfl, HA2⟩
      case round =>
        obtain ⟨k, hk1, hkn, rfl, rfl, HK, hB⟩ := hrel
        obtain ⟨a0, a1⟩ := HBD.out k (by omega) HK.out
        by_cases hlt : k < 2
        · have hck := HC.out wr hB.out k hlt
          have hz := HZ.out k
          have hz' : ((zs[k]?.getD 0 : Nat) : Int) < 256 := by omega
          by_cases q1 : zs[k]?.getD 0 < 128 ∨ 191 < zs[k]?.getD 0
          · have HF : Hid (numN 192 32 2 zs = -1) := Lib.hid (by rw [HN.out, contB_no zs k 2 hk1 hlt q1]; rfl)
            rcases q1 with q1 | q1
            · have q1' : ((zs[k]?.getD 0 : Nat) : Int) < 128 := by omega
              generalize zs[k]?.getD 0 = y at *
              go_wp2
              go_ret
              exact ⟨by rw [HF.out]; rfl, hB.out⟩
            · have q1' : (191 : Int) < ((zs[k]?.getD 0 : Nat) : Int) := by omega
              generalize zs[k]?.getD 0 = y at *
              go_wp2
              go_ret
              exact ⟨by rw [HF.out]; rfl, hB.out⟩
          · have q1' : (128 : Int) ≤ ((zs[k]?.getD 0 : Nat) : Int) := by omega
            have q2' : ((zs[k]?.getD 0 : Nat) : Int) ≤ 191 := by omega
            have HK' : Hid (contB zs (k + 1) = true) := Lib.hid (by rw [contB_succ zs k hk1, HK.out]; simp; omega)
            have HS : Hid (accZ 192 zs (k + 1) = 64 * accZ 192 zs k + ((zs[k]?.getD 0 : Nat) : Int) - 128) := Lib.hid (by
              obtain ⟨q, rfl⟩ : ∃ q, k = q + 1 := ⟨k - 1, by omega⟩
              rfl)
            clear q1 HBD
            generalize zs[k]?.getD 0 = y at *
            generalize accZ 192 zs k = a at *
            go_wp2
            go_roundw
            case rel => exact ⟨k + 1, by omega, by omega, by go_num, by rw [HS.out], HK', hB⟩
            case measure => simp [intOf]; omega
        · obtain rfl : k = 2 := by omega
          have HF : Hid (numN 192 32 2 zs = accZ 192 zs 2) := Lib.hid (by rw [HN.out, if_pos HK.out])
          go_wp2
          go_ret
          exact ⟨by rw [HF.out]; rfl, hB.out⟩

set_option maxRecDepth 100000 in
set_option maxHeartbeats 1000000 in
theorem number_3 (b off c : Nat) (zs : List Nat) (hn : zs.length = 3) (w : World) (hR : BS w w.heap.size (some ⟨b, off, none⟩) zs) :
    Calls Tryd.prog 27 #[.slice (some ⟨b, off, none⟩) 3 c] w fun e w' => e = .returned (.int .i32 (numN 224 16 3 zs)) ∧ Below w.heap.size w w' := by
  obtain ⟨b', off', e, hb, hc⟩ := hR.2 (by rintro rfl; simp at hn)
  obtain ⟨rfl, rfl⟩ : b = b' ∧ off = off' := by simpa using e
  have HZ : Hid (∀ k, zs[k]?.getD 0 < 256) := Lib.hid fun k => by
    rcases Nat.lt_or_ge k zs.length with h | h
    · rw [List.getElem?_eq_getElem h]; exact hR.1 _ (List.getElem_mem _)
    · rw [List.getElem?_eq_none h]; decide
  have hc0 : w.cell? ⟨b, off, none⟩ = some (.int .u8 (zs[0]?.getD 0 : Nat)) := hc 0 (by omega)
  have HC : Hid (∀ W, Below w.heap.size w W → ∀ k, k < 3 → W.cell? ⟨b, off + k, none⟩ = some (.int .u8 (zs[k]?.getD 0 : Nat))) := Lib.hid fun W hW k hk => (hW.cell (p := ⟨b, off + k, none⟩) hb).trans (hc k (by omega))
  have h256 := HZ.out 0
  have h256' : ((zs[0]?.getD 0 : Nat) : Int) < 256 := by omega
  have hA : Below w.heap.size w (w.alloc (.cells #[.int .i32 0, .int .i32 0, .int .i32 192, .int .i32 224, .int .i32 240] 21)) := (Below.refl _ _).alloc (Nat.le_refl _) _
  have hA2 : Below w.heap.size w ((w.alloc (.cells #[.int .i32 0, .int .i32 0, .int .i32 192, .int .i32 224, .int .i32 240] 21)).alloc (.cells #[.int .i32 0, .int .i32 0, .int .i32 32, .int .i32 16, .int .i32 8] 21)) := hA.alloc hA.size _
  have k0 := (hA.cell (p := ⟨b, off, none⟩) hb).trans hc0
  have k2 := (hA2.cell (p := ⟨b, off, none⟩) hb).trans hc0
  have HA := Lib.hid hA
  have HA2 := Lib.hid hA2
  clear hc hR hA hA2
  by_cases g1 : zs[0]?.getD 0 < 224
  · have HN : Hid (numN 224 16 3 zs = -1) := Lib.hid (by unfold numN; rw [if_pos (.inl g1)])
    have g1' : ((zs[0]?.getD 0 : Nat) : Int) < 224 := by omega
    generalize zs[0]?.getD 0 = z at *
    go_enter Tryd.func27, Tryd.ntmps27
    go_wp2
    go_ret
    exact ⟨by rw [HN.out]; rfl, HA.out⟩
  · by_cases g2 : 224 + 16 ≤ zs[0]?.getD 0
    · have HN : Hid (numN 224 16 3 zs = -1) := Lib.hid (by unfold numN; rw [if_pos (.inr g2)])
      have g1' : (224 : Int) ≤ ((zs[0]?.getD 0 : Nat) : Int) := by omega
      have g2' : (224 + 16 : Int) ≤ ((zs[0]?.getD 0 : Nat) : Int) := by omega
      generalize zs[0]?.getD 0 = z at *
      go_enter Tryd.func27, Tryd.ntmps27
      go_wp2
      go_ret
      exact ⟨by rw [HN.out]; rfl, HA2.out⟩
    · have HN : Hid (numN 224 16 3 zs = if contB zs 3 = true then accZ 224 zs 3 else -1) := Lib.hid (by unfold numN; rw [if_neg (by omega)])
      have g1' : (224 : Int) ≤ ((zs[0]?.getD 0 : Nat) : Int) := by omega
      have g2' : ((zs[0]?.getD 0 : Nat) : Int) < (224 + 16 : Int) := by omega
      have HBD : Hid (∀ k, k ≤ 4 → contB zs k = true → 0 ≤ accZ 224 zs k ∧ accZ 224 zs k ≤ 8388608) := Lib.hid fun k => accZ_bd' 224 16 (by omega) zs (by omega) (by omega) k
      have H1 : Hid (accZ 224 zs 1 = ((zs[0]?.getD 0 : Nat) : Int) - 224) := Lib.hid rfl
      generalize zs[0]?.getD 0 = z at *
      go_enter Tryd.func27, Tryd.ntmps27
      go_wp2
      go_loopw [5, 6] (fun r i wr => ∃ k : Nat, 1 ≤ k ∧ k ≤ 3 ∧ i = .int .i64 k ∧ r = .int .i32 (accZ 224 zs k) ∧ Hid (contB zs k = true) ∧ Hid (Below w.heap.size w wr)) (fun _ i _ => 3 - (intOf i).toNat)
      case atStart => exact ⟨1, Nat.le_refl _, by omega, rfl, by rw [H1.out], Lib.hid rfl, HA2⟩
      case round =>
        obtain ⟨k, hk1, hkn, rfl, rfl, HK, hB⟩ := hrel
        obtain ⟨a0, a1⟩ := HBD.out k (by omega) HK.out
        by_cases hlt : k < 3
        · have hck := HC.out wr hB.out k hlt
          have hz := HZ.out k
          have hz' : ((zs[k]?.getD 0 : Nat) : Int) < 256 := by omega
          by_cases q1 : zs[k]?.getD 0 < 128 ∨ 191 < zs[k]?.getD 0
          · have HF : Hid (numN 224 16 3 zs = -1) := Lib.hid (by rw [HN.out, contB_no zs k 3 hk1 hlt q1]; rfl)
            rcases q1 with q1 | q1
            · have q1' : ((zs[k]?.getD 0 : Nat) : Int) < 128 := by omega
              generalize zs[k]?.getD 0 = y at *
              go_wp2
              go_ret
              exact ⟨by rw [HF.out]; rfl, hB.out⟩
            · have q1' : (191 : Int) < ((zs[k]?.getD 0 : Nat) : Int) := by omega
              generalize zs[k]?.getD 0 = y at *
              go_wp2
              go_ret
              exact ⟨by rw [HF.out]; rfl, hB.out⟩
          · have q1' : (128 : Int) ≤ ((zs[k]?.getD 0 : Nat) : Int) := by omega
            have q2' : ((zs[k]?.getD 0 : Nat) : Int) ≤ 191 := by omega
            have HK' : Hid (contB zs (k + 1) = true) := Lib.hid (by rw [contB_succ zs k hk1, HK.out]; simp; omega)
            have HS : Hid (accZ 224 zs (k + 1) = 64 * accZ 224 zs k + ((zs[k]?.getD 0 : Nat) : Int) - 128) := Lib.hid (by
              obtain ⟨q, rfl⟩ : ∃ q, k = q + 1 := ⟨k - 1, by omega⟩
              rfl)
            clear q1 HBD
            generalize zs[k]?.getD 0 = y at *
            generalize accZ 224 zs k = a at *
            go_wp2
            go_roundw
            case rel => exact ⟨k + 1, by omega, by omega, by go_num, by rw [HS.out], HK', hB⟩
            case measure => simp [intOf]; omega
        · obtain rfl : k = 3 := by omega
          have HF : Hid (numN 224 16 3 zs = accZ 224 zs 3) := Lib.hid (by rw [HN.out, if_pos HK.out])
          go_wp2
          go_ret
          exact ⟨by rw [HF.out]; rfl, hB.out⟩

set_option maxRecDepth 100000 in
set_option maxHeartbeats 1000000 in
theorem number_4 (b off c : Nat) (zs : List Nat) (hn : zs.length = 4) (w : World) (hR : BS w w.heap.size (some ⟨b, off, none⟩) zs) :
    Calls Tryd.prog 27 #[.slice (some ⟨b, off, none⟩) 4 c] w fun e w' => e = .returned (.int .i32 (numN 240 8 4 zs)) ∧ Below w.heap.size w w' := by
  obtain ⟨b', off', e, hb, hc⟩ := hR.2 (by rintro rfl; simp at hn)
  obtain ⟨rfl, rfl⟩ : b = b' ∧ off = off' := by simpa using e
  have HZ : Hid (∀ k, zs[k]?.getD 0 < 256) := Lib.hid fun k => by
    rcases Nat.lt_or_ge k zs.length with h | h
    · rw [List.getElem?_eq_getElem h]; exact hR.1 _ (List.getElem_mem _)
    · rw [List.getElem?_eq_none h]; decide
  have hc0 : w.cell? ⟨b, off, none⟩ = some (.int .u8 (zs[0]?.getD 0 : Nat)) := hc 0 (by omega)
  have HC : Hid (∀ W, Below w.heap.size w W → ∀ k, k < 4 → W.cell? ⟨b, off + k, none⟩ = some (.int .u8 (zs[k]?.getD 0 : Nat))) := Lib.hid fun W hW k hk => (hW.cell (p := ⟨b, off + k, none⟩) hb).trans (hc k (by omega))
  have h256 := HZ.out 0
  have h256' : ((zs[0]?.getD 0 : Nat) : Int) < 256 := by omega
  have hA : Below w.heap.size w (w.alloc (.cells #[.int .i32 0, .int .i32 0, .int .i32 192, .int .i32 224, .int .i32 240] 21)) := (Below.refl _ _).alloc (Nat.le_refl _) _
  have hA2 : Below w.heap.size w ((w.alloc (.cells #[.int .i32 0, .int .i32 0, .int .i32 192, .int .i32 224, .int .i32 240] 21)).alloc (.cells #[.int .i32 0, .int .i32 0, .int .i32 32, .int .i32 16, .int .i32 8] 21)) := hA.alloc hA.size _
  have k0 := (hA.cell (p := ⟨b, off, none⟩) hb).trans hc0
  have k2 := (hA2.cell (p := ⟨b, off, none⟩) hb).trans hc0
  have HA := Lib.hid hA
  have HA2 := Lib.hid hA2
  clear hc hR hA hA2
  by_cases g1 : zs[0]?.getD 0 < 240
  · have HN : Hid (numN 240 8 4 zs = -1) := Lib.hid (by unfold numN; rw [if_pos (.inl g1)])
    have g1' : ((zs[0]?.getD 0 : Nat) : Int) < 240 := by omega
    generalize zs[0]?.getD 0 = z at *
    go_enter Tryd.func27, Tryd.ntmps27
    go_wp2
    go_ret
    exact ⟨by rw [HN.out]; rfl, HA.out⟩
  · by_cases g2 : 240 + 8 ≤ zs[0]?.getD 0
    · have HN : Hid (numN 240 8 4 zs = -1) := Lib.hid (by unfold numN; rw [if_pos (.inr g2)])
      have g1' : (240 : Int) ≤ ((zs[0]?.getD 0 : Nat) : Int) := by omega
      have g2' : (240 + 8 : Int) ≤ ((zs[0]?.getD 0 : Nat) : Int) := by omega
      generalize zs[0]?.getD 0 = z at *
      go_enter Tryd.func27, Tryd.ntmps27
      go_wp2
      go_ret
      exact ⟨by rw [HN.out]; rfl, HA2.out⟩
    · have HN : Hid (numN 240 8 4 zs = if contB zs 4 = true then accZ 240 zs 4 else -1) := Lib.hid (by unfold numN; rw [if_neg (by omega)])
      have g1' : (240 : Int) ≤ ((zs[0]?.getD 0 : Nat) : Int) := by omega
      have g2' : ((zs[0]?.getD 0 : Nat) : Int) < (240 + 8 : Int) := by omega
      have HBD : Hid (∀ k, k ≤ 4 → contB zs k = true → 0 ≤ accZ 240 zs k ∧ accZ 240 zs k ≤ 8388608) := Lib.hid fun k => accZ_bd' 240 8 (by omega) zs (by omega) (by omega) k
      have H1 : Hid (accZ 240 zs 1 = ((zs[0]?.getD 0 : Nat) : Int) - 240) := Lib.hid rfl
      generalize zs[0]?.getD 0 = z at *
      go_enter Tryd.func27, Tryd.ntmps27
      go_wp2
      go_loopw [5, 6] (fun r i wr => ∃ k : Nat, 1 ≤ k ∧ k ≤ 4 ∧ i = .int .i64 k ∧ r = .int .i32 (accZ 240 zs k) ∧ Hid (contB zs k = true) ∧ Hid (Below w.heap.size w wr)) (fun _ i _ => 4 - (intOf i).toNat)
      case atStart => exact ⟨1, Nat.le_refl _, by omega, rfl, by rw [H1.out], Lib.hid rfl, HA2⟩
      case round =>
        obtain ⟨k, hk1, hkn, rfl, rfl, HK, hB⟩ := hrel
        obtain ⟨a0, a1⟩ := HBD.out k (by omega) HK.out
        by_cases hlt : k < 4
        · have hck := HC.out wr hB.out k hlt
          have hz := HZ.out k
          have hz' : ((zs[k]?.getD 0 : Nat) : Int) < 256 := by omega
          by_cases q1 : zs[k]?.getD 0 < 128 ∨ 191 < zs[k]?.getD 0
          · have HF : Hid (numN 240 8 4 zs = -1) := Lib.hid (by rw [HN.out, contB_no zs k 4 hk1 hlt q1]; rfl)
            rcases q1 with q1 | q1
            · have q1' : ((zs[k]?.getD 0 : Nat) : Int) < 128 := by omega
              generalize zs[k]?.getD 0 = y at *
              go_wp2
              go_ret
              exact ⟨by rw [HF.out]; rfl, hB.out⟩
            · have q1' : (191 : Int) < ((zs[k]?.getD 0 : Nat) : Int) := by omega
              generalize zs[k]?.getD 0 = y at *
              go_wp2
              go_ret
              exact ⟨by rw [HF.out]; rfl, hB.out⟩
          · have q1' : (128 : Int) ≤ ((zs[k]?.getD 0 : Nat) : Int) := by omega
            have q2' : ((zs[k]?.getD 0 : Nat) : Int) ≤ 191 := by omega
            have HK' : Hid (contB zs (k + 1) = true) := Lib.hid (by rw [contB_succ zs k hk1, HK.out]; simp; omega)
            have HS : Hid (accZ 240 zs (k + 1) = 64 * accZ 240 zs k + ((zs[k]?.getD 0 : Nat) : Int) - 128) := Lib.hid (by
              obtain ⟨q, rfl⟩ : ∃ q, k = q + 1 := ⟨k - 1, by omega⟩
              rfl)
            clear q1 HBD
            generalize zs[k]?.getD 0 = y at *
            generalize accZ 240 zs k = a at *
            go_wp2
            go_roundw
            case rel => exact ⟨k + 1, by omega, by omega, by go_num, by rw [HS.out], HK', hB⟩
            case measure => simp [intOf]; omega
        · obtain rfl : k = 4 := by omega
          have HF : Hid (numN 240 8 4 zs = accZ 240 zs 4) := Lib.hid (by rw [HN.out, if_pos HK.out])
          go_wp2
          go_ret
          exact ⟨by rw [HF.out]; rfl, hB.out⟩

theorem number_any (A : Option Addr) (zs : List Nat) (n c : Nat) (hn : n = zs.length) (w : World) (hR : BS w w.heap.size A zs) :
    Calls Tryd.prog 27 #[.slice A n c] w fun e w' => e = .returned (.int .i32 (numZ zs)) ∧ Below w.heap.size w w' := by
  unfold numZ
  rcases (by omega : n = 0 ∨ n = 1 ∨ n = 2 ∨ n = 3 ∨ n = 4 ∨ 4 < n) with h | h | h | h | h | h
  · rw [← hn, h]
    exact number_0 A c w
  · have hl : 0 < zs.length := by omega
    obtain ⟨b, off, rfl, _, hc⟩ := hR.2 (List.length_pos_iff.1 hl)
    have hz : zs[0]?.getD 0 < 256 := by rw [List.getElem?_eq_getElem hl]; exact hR.1 _ (List.getElem_mem _)
    rw [← hn, h]
    exact number_1 b off c _ w hz (hc 0 hl)
  · obtain ⟨b, off, rfl, _, _⟩ := hR.2 (List.length_pos_iff.1 (by omega))
    have := number_2 b off c zs (by omega) w hR
    rw [← hn, h]
    exact this
  · obtain ⟨b, off, rfl, _, _⟩ := hR.2 (List.length_pos_iff.1 (by omega))
    have := number_3 b off c zs (by omega) w hR
    rw [← hn, h]
    exact this
  · obtain ⟨b, off, rfl, _, _⟩ := hR.2 (List.length_pos_iff.1 (by omega))
    have := number_4 b off c zs (by omega) w hR
    rw [← hn, h]
    exact this
  · rw [← hn, if_neg (by omega), if_neg (by omega), if_neg (by omega), if_neg (by omega)]
    exact number_5 A n c h w

end Go.Proofs.YtdhmpnjodcjjpaaDoor
