/- The walks of utf.Put and utf.Size. -/
import Derived.Test.YtmmkcfjncpcabaaDoorUf
import Derived.Laws.IdiomStrings
import Derived.Deep.RegionHeld3
import Derived.Deep.RegionWith
import Derived.Test.YtmmkcfjncpcabaaDoorVo
import Derived.Test.YtmmkcfjncpcabaaDoorQx
namespace Go.Proofs.YtmmkcfjncpcabaaDoor
open Go.RowKit

def scalarB (r : Int) : Bool := decide ((0 ≤ r ∧ r < 55296) ∨ (57343 < r ∧ r ≤ 1114111))
set_option maxHeartbeats 400000 in
theorem valid_any (r : Int) (w : World) :
    Calls Tryd.prog 96 #[.int .i32 r] w fun e w' => e = .returned (.bool (scalarB r)) ∧ w = w' := by
  go_enter Tryd.func96, Tryd.ntmps96
  go_wp2
  all_goals
    go_ret
    refine ⟨?_, rfl⟩
    first
      | (have e : scalarB r = true := decide_eq_true (by omega); rw [e]; rfl)
      | (have e : scalarB r = false := decide_eq_false (by omega); rw [e]; rfl)
def sizeN (c : Nat) : Nat := if c < 128 then 1 else if 194 ≤ c ∧ c ≤ 223 then 2 else if 224 ≤ c ∧ c ≤ 239 then 3 else if 240 ≤ c ∧ c ≤ 244 then 4 else 0
end Go.Proofs.YtmmkcfjncpcabaaDoor

namespace Go.Proofs.YtmmkcfjncpcabaaDoor
open Go.RowKit

/-- The number behind k bytes. -/
def accZ (lo : Nat) (zs : List Nat) : Nat → Int
  | 0 => 0
  | 1 => ((zs[0]?.getD 0 : Nat) : Int) - lo
  | k + 2 => 64 * accZ lo zs (k + 1) + ((zs[k + 1]?.getD 0 : Nat) : Int) - 128
def contB (zs : List Nat) (n : Nat) : Bool := (List.range n).all fun j => decide (j = 0) || (decide (128 ≤ zs[j]?.getD 0) && decide (zs[j]?.getD 0 ≤ 191))
def numN (lo wd n : Nat) (zs : List Nat) : Int :=
  if zs[0]?.getD 0 < lo ∨ lo + wd ≤ zs[0]?.getD 0 then -1 else if contB zs n = true then accZ lo zs n else -1
def numZ_u (zs : List Nat) : Int :=
  if zs.length = 1 then ((zs[0]?.getD 0 : Nat) : Int) else if zs.length = 2 then numN 192 32 2 zs else if zs.length = 3 then numN 224 16 3 zs else if zs.length = 4 then numN 240 8 4 zs else -1
theorem contB_succ (zs : List Nat) (k : Nat) (hk : 1 ≤ k) : contB zs (k + 1) = (contB zs k && (decide (128 ≤ zs[k]?.getD 0) && decide (zs[k]?.getD 0 ≤ 191))) := by
  unfold contB
  rw [List.range_succ, List.all_append]
  have : ¬ k = 0 := by omega
  simp [this]
theorem contB_no (zs : List Nat) (k n : Nat) (hk : 1 ≤ k) (hkn : k < n) (h : zs[k]?.getD 0 < 128 ∨ 191 < zs[k]?.getD 0) : contB zs n = false := by
  unfold contB
  rw [List.all_eq_false]
  exact ⟨k, List.mem_range.2 hkn, by simp; omega⟩
theorem accZ_bd (lo wd : Nat) (hw : wd ≤ 32) (zs : List Nat) (h0 : lo ≤ zs[0]?.getD 0) (h1 : zs[0]?.getD 0 < lo + wd) : ∀ k, k ≤ 4 → contB zs k = true → 0 ≤ accZ lo zs k ∧ accZ lo zs k < 32 * 64 ^ (k - 1)
  | 0, _, _ => by simp [accZ]
  | 1, _, _ => by simp [accZ]; omega
  | k + 2, hk, hc => by
    rw [contB_succ zs (k + 1) (by omega)] at hc
    simp only [Bool.and_eq_true, decide_eq_true_eq] at hc
    have ih := accZ_bd lo wd hw zs h0 h1 (k + 1) (by omega) hc.1
    rw [accZ]
    have e : k + 2 - 1 = (k + 1 - 1) + 1 := by omega
    rw [e, Int.pow_succ]
    generalize accZ lo zs (k + 1) = a at *
    generalize (64 : Int) ^ (k + 1 - 1) = p at *
    omega
theorem accZ_bd' (lo wd : Nat) (hw : wd ≤ 32) (zs : List Nat) (h0 : lo ≤ zs[0]?.getD 0) (h1 : zs[0]?.getD 0 < lo + wd) (k : Nat) (hk : k ≤ 4) (hc : contB zs k = true) : 0 ≤ accZ lo zs k ∧ accZ lo zs k ≤ 8388608 := by
  have h := accZ_bd lo wd hw zs h0 h1 k hk hc
  have hp : (64 : Int) ^ (k - 1) ≤ 262144 := by
    rcases (by omega : k = 0 ∨ k = 1 ∨ k = 2 ∨ k = 3 ∨ k = 4) with rfl | rfl | rfl | rfl | rfl <;> decide
  omega

theorem number_0 (A : Option Addr) (c : Nat) (w : World) : Calls Tryd.prog 39 #[.slice A 0 c] w fun e w' => e = .returned (.int .i32 (-1)) ∧ Below w.heap.size w w' := by
  go_enter Tryd.func39, Tryd.ntmps39
  go_wp2
  go_ret
  exact ⟨rfl, Below.refl _ _⟩
theorem number_5 (A : Option Addr) (n c : Nat) (hn : 4 < n) (w : World) : Calls Tryd.prog 39 #[.slice A n c] w fun e w' => e = .returned (.int .i32 (-1)) ∧ Below w.heap.size w w' := by
  have hnz : ((n : Int) == 0) = false := by simp; omega
  have hn4 : (4 : Int) < n := by omega
  go_enter Tryd.func39, Tryd.ntmps39
  go_wp2
  go_ret
  exact ⟨rfl, Below.refl _ _⟩
theorem number_1 (b off c z : Nat) (w : World) (hz : z < 256) (hc : w.cell? ⟨b, off, none⟩ = some (.int .u8 z)) : Calls Tryd.prog 39 #[.slice (some ⟨b, off, none⟩) 1 c] w fun e w' => e = .returned (.int .i32 z) ∧ Below w.heap.size w w' := by
  have hz0 : (z : Int) < 256 := by omega
  go_enter Tryd.func39, Tryd.ntmps39
  go_wp2
  go_ret
  exact ⟨rfl, Below.refl _ _⟩

set_option maxRecDepth 100000 in
set_option maxHeartbeats 1000000 in
theorem number_2 (b off c : Nat) (zs : List Nat) (hn : zs.length = 2) (w : World) (hR : BS w w.heap.size (some ⟨b, off, none⟩) zs) :
    Calls Tryd.prog 39 #[.slice (some ⟨b, off, none⟩) 2 c] w fun e w' => e = .returned (.int .i32 (numN 192 32 2 zs)) ∧ Below w.heap.size w w' := by
  obtain ⟨b', off', e, hb, hc⟩ := hR.2 (by rintro rfl; simp at hn)
  obtain ⟨rfl, rfl⟩ : b = b' ∧ off = off' := by simpa using e
  have HZ : Hid (∀ k, zs[k]?.getD 0 < 256) := Lib.hid fun k => by
    rcases Nat.lt_or_ge k zs.length with h | h
    · rw [List.getElem?_eq_getElem h]; exact hR.1 _ (List.getElem_mem _)
    · rw [List.getElem?_eq_none h]; decide
  have hc0 : w.cell? ⟨b, off, none⟩ = some (.int .u8 (zs[0]?.getD 0 : Nat)) := hc 0 (by omega)
  have HC : Hid (∀ W, Below w.heap.size w W → ∀ k, k < 2 → W.cell? ⟨b, off + k, none⟩ = some (.int .u8 (zs[k]?.getD 0 : Nat))) := Lib.hid fun W hW k hk => (hW.cell (p := ⟨b, off + k, none⟩) hb).trans (hc k (by omega))
  have h256 := HZ.out 0
  have h256' : ((zs[0]?.getD 0 : Nat) : Int) < 256 := by omega
  have hA : Below w.heap.size w (w.alloc (.cells #[.int .i32 0, .int .i32 0, .int .i32 192, .int .i32 224, .int .i32 240] 21)) := (Below.refl _ _).alloc (Nat.le_refl _) _
  have hA2 : Below w.heap.size w ((w.alloc (.cells #[.int .i32 0, .int .i32 0, .int .i32 192, .int .i32 224, .int .i32 240] 21)).alloc (.cells #[.int .i32 0, .int .i32 0, .int .i32 32, .int .i32 16, .int .i32 8] 21)) := hA.alloc hA.size _
  have k0 := (hA.cell (p := ⟨b, off, none⟩) hb).trans hc0
  have k2 := (hA2.cell (p := ⟨b, off, none⟩) hb).trans hc0
  have HA := Lib.hid hA
  have HA2 := Lib.hid hA2
  clear hc hR hA hA2
  by_cases g1 : zs[0]?.getD 0 < 192
  · have HN : Hid (numN 192 32 2 zs = -1) := Lib.hid (by unfold numN; rw [if_pos (.inl g1)])
    have g1' : ((zs[0]?.getD 0 : Nat) : Int) < 192 := by omega
    generalize zs[0]?.getD 0 = z at *
    go_enter Tryd.func39, Tryd.ntmps39
    go_wp2
    go_ret
    exact ⟨by rw [HN.out]; rfl, HA.out⟩
  · by_cases g2 : 192 + 32 ≤ zs[0]?.getD 0
    · have HN : Hid (numN 192 32 2 zs = -1) := Lib.hid (by unfold numN; rw [if_pos (.inr g2)])
      have g1' : (192 : Int) ≤ ((zs[0]?.getD 0 : Nat) : Int) := by omega
      have g2' : (192 + 32 : Int) ≤ ((zs[0]?.getD 0 : Nat) : Int) := by omega
      generalize zs[0]?.getD 0 = z at *
      go_enter Tryd.func39, Tryd.ntmps39
      go_wp2
      go_ret
      exact ⟨by rw [HN.out]; rfl, HA2.out⟩
    · have HN : Hid (numN 192 32 2 zs = if contB zs 2 = true then accZ 192 zs 2 else -1) := Lib.hid (by unfold numN; rw [if_neg (by omega)])
      have g1' : (192 : Int) ≤ ((zs[0]?.getD 0 : Nat) : Int) := by omega
      have g2' : ((zs[0]?.getD 0 : Nat) : Int) < (192 + 32 : Int) := by omega
      have HBD : Hid (∀ k, k ≤ 4 → contB zs k = true → 0 ≤ accZ 192 zs k ∧ accZ 192 zs k ≤ 8388608) := Lib.hid fun k => accZ_bd' 192 32 (by omega) zs (by omega) (by omega) k
      have H1 : Hid (accZ 192 zs 1 = ((zs[0]?.getD 0 : Nat) : Int) - 192) := Lib.hid rfl
      generalize zs[0]?.getD 0 = z at *
      go_enter Tryd.func39, Tryd.ntmps39
      go_wp2
      go_loopw [5, 6] (fun r i wr => ∃ k : Nat, 1 ≤ k ∧ k ≤ 2 ∧ i = .int .i64 k ∧ r = .int .i32 (accZ 192 zs k) ∧ Hid (contB zs k = true) ∧ Hid (Below w.heap.size w wr)) (fun _ i _ => 2 - (intOf i).toNat)
      case atStart => exact ⟨1, Nat.le_refl _, by omega, rfl, by rw [H1.out], Lib.hid rfl, HA2⟩
      case round =>
        obtain ⟨k, hk1, hkn, rfl, rfl, HK, hB⟩ := hrel
        obtain ⟨a0, a1⟩ := HBD.out k (by omega) HK.out
        by_cases hlt : k < 2
        · have hck := HC.out wr hB.out k hlt
          have hz := HZ.out k
          have hz' : ((zs[k]?.getD 0 : Nat) : Int) < 256 := by omega
          by_cases q1 : zs[k]?.getD 0 < 128 ∨ 191 < zs[k]?.getD 0
          · have HF : Hid (numN 192 32 2 zs = -1) := Lib.hid (by rw [HN.out, contB_no zs k 2 hk1 hlt q1]; rfl)
            rcases q1 with q1 | q1
            · have q1' : ((zs[k]?.getD 0 : Nat) : Int) < 128 := by omega
              generalize zs[k]?.getD 0 = y at *
              go_wp2
              go_ret
              exact ⟨by rw [HF.out]; rfl, hB.out⟩
            · have q1' : (191 : Int) < ((zs[k]?.getD 0 : Nat) : Int) := by omega
              generalize zs[k]?.getD 0 = y at *
              go_wp2
              go_ret
              exact ⟨by rw [HF.out]; rfl, hB.out⟩
          · have q1' : (128 : Int) ≤ ((zs[k]?.getD 0 : Nat) : Int) := by omega
            have q2' : ((zs[k]?.getD 0 : Nat) : Int) ≤ 191 := by omega
            have HK' : Hid (contB zs (k + 1) = true) := Lib.hid (by rw [contB_succ zs k hk1, HK.out]; simp; omega)
            have HS : Hid (accZ 192 zs (k + 1) = 64 * accZ 192 zs k + ((zs[k]?.getD 0 : Nat) : Int) - 128) := Lib.hid (by
              obtain ⟨q, rfl⟩ : ∃ q, k = q + 1 := ⟨k - 1, by omega⟩
              rfl)
            clear q1 HBD
            generalize zs[k]?.getD 0 = y at *
            generalize accZ 192 zs k = a at *
            go_wp2
            go_roundw
            case rel => exact ⟨k + 1, by omega, by omega, by go_num, by rw [HS.out], HK', hB⟩
            case measure => simp [intOf]; omega
        · obtain rfl : k = 2 := by omega
          have HF : Hid (numN 192 32 2 zs = accZ 192 zs 2) := Lib.hid (by rw [HN.out, if_pos HK.out])
          go_wp2
          go_ret
          exact ⟨by rw [HF.out]; rfl, hB.out⟩

set_option maxRecDepth 100000 in
set_option maxHeartbeats 1000000 in
theorem number_3 (b off c : Nat) (zs : List Nat) (hn : zs.length = 3) (w : World) (hR : BS w w.heap.size (some ⟨b, off, none⟩) zs) :
    Calls Tryd.prog 39 #[.slice (some ⟨b, off, none⟩) 3 c] w fun e w' => e = .returned (.int .i32 (numN 224 16 3 zs)) ∧ Below w.heap.size w w' := by
  obtain ⟨b', off', e, hb, hc⟩ := hR.2 (by rintro rfl; simp at hn)
  obtain ⟨rfl, rfl⟩ : b = b' ∧ off = off' := by simpa using e
  have HZ : Hid (∀ k, zs[k]?.getD 0 < 256) := Lib.hid fun k => by
    rcases Nat.lt_or_ge k zs.length with h | h
    · rw [List.getElem?_eq_getElem h]; exact hR.1 _ (List.getElem_mem _)
    · rw [List.getElem?_eq_none h]; decide
  have hc0 : w.cell? ⟨b, off, none⟩ = some (.int .u8 (zs[0]?.getD 0 : Nat)) := hc 0 (by omega)
  have HC : Hid (∀ W, Below w.heap.size w W → ∀ k, k < 3 → W.cell? ⟨b, off + k, none⟩ = some (.int .u8 (zs[k]?.getD 0 : Nat))) := Lib.hid fun W hW k hk => (hW.cell (p := ⟨b, off + k, none⟩) hb).trans (hc k (by omega))
  have h256 := HZ.out 0
  have h256' : ((zs[0]?.getD 0 : Nat) : Int) < 256 := by omega
  have hA : Below w.heap.size w (w.alloc (.cells #[.int .i32 0, .int .i32 0, .int .i32 192, .int .i32 224, .int .i32 240] 21)) := (Below.refl _ _).alloc (Nat.le_refl _) _
  have hA2 : Below w.heap.size w ((w.alloc (.cells #[.int .i32 0, .int .i32 0, .int .i32 192, .int .i32 224, .int .i32 240] 21)).alloc (.cells #[.int .i32 0, .int .i32 0, .int .i32 32, .int .i32 16, .int .i32 8] 21)) := hA.alloc hA.size _
  have k0 := (hA.cell (p := ⟨b, off, none⟩) hb).trans hc0
  have k2 := (hA2.cell (p := ⟨b, off, none⟩) hb).trans hc0
  have HA := Lib.hid hA
  have HA2 := Lib.hid hA2
  clear hc hR hA hA2
  by_cases g1 : zs[0]?.getD 0 < 224
  · have HN : Hid (numN 224 16 3 zs = -1) := Lib.hid (by unfold numN; rw [if_pos (.inl g1)])
    have g1' : ((zs[0]?.getD 0 : Nat) : Int) < 224 := by omega
    generalize zs[0]?.getD 0 = z at *
    go_enter Tryd.func39, Tryd.ntmps39
    go_wp2
    go_ret
    exact ⟨by rw [HN.out]; rfl, HA.out⟩
  · by_cases g2 : 224 + 16 ≤ zs[0]?.getD 0
    · have HN : Hid (numN 224 16 3 zs = -1) := Lib.hid (by unfold numN; rw [if_pos (.inr g2)])
      have g1' : (224 : Int) ≤ ((zs[0]?.getD 0 : Nat) : Int) := by omega
      have g2' : (224 + 16 : Int) ≤ ((zs[0]?.getD 0 : Nat) : Int) := by omega
      generalize zs[0]?.getD 0 = z at *
      go_enter Tryd.func39, Tryd.ntmps39
      go_wp2
      go_ret
      exact ⟨by rw [HN.out]; rfl, HA2.out⟩
    · have HN : Hid (numN 224 16 3 zs = if contB zs 3 = true then accZ 224 zs 3 else -1) := Lib.hid (by unfold numN; rw [if_neg (by omega)])
      have g1' : (224 : Int) ≤ ((zs[0]?.getD 0 : Nat) : Int) := by omega
      have g2' : ((zs[0]?.getD 0 : Nat) : Int) < (224 + 16 : Int) := by omega
      have HBD : Hid (∀ k, k ≤ 4 → contB zs k = true → 0 ≤ accZ 224 zs k ∧ accZ 224 zs k ≤ 8388608) := Lib.hid fun k => accZ_bd' 224 16 (by omega) zs (by omega) (by omega) k
      have H1 : Hid (accZ 224 zs 1 = ((zs[0]?.getD 0 : Nat) : Int) - 224) := Lib.hid rfl
      generalize zs[0]?.getD 0 = z at *
      go_enter Tryd.func39, Tryd.ntmps39
      go_wp2
      go_loopw [5, 6] (fun r i wr => ∃ k : Nat, 1 ≤ k ∧ k ≤ 3 ∧ i = .int .i64 k ∧ r = .int .i32 (accZ 224 zs k) ∧ Hid (contB zs k = true) ∧ Hid (Below w.heap.size w wr)) (fun _ i _ => 3 - (intOf i).toNat)
      case atStart => exact ⟨1, Nat.le_refl _, by omega, rfl, by rw [H1.out], Lib.hid rfl, HA2⟩
      case round =>
        obtain ⟨k, hk1, hkn, rfl, rfl, HK, hB⟩ := hrel
        obtain ⟨a0, a1⟩ := HBD.out k (by omega) HK.out
        by_cases hlt : k < 3
        · have hck := HC.out wr hB.out k hlt
          have hz := HZ.out k
          have hz' : ((zs[k]?.getD 0 : Nat) : Int) < 256 := by omega
          by_cases q1 : zs[k]?.getD 0 < 128 ∨ 191 < zs[k]?.getD 0
          · have HF : Hid (numN 224 16 3 zs = -1) := Lib.hid (by rw [HN.out, contB_no zs k 3 hk1 hlt q1]; rfl)
            rcases q1 with q1 | q1
            · have q1' : ((zs[k]?.getD 0 : Nat) : Int) < 128 := by omega
              generalize zs[k]?.getD 0 = y at *
              go_wp2
              go_ret
              exact ⟨by rw [HF.out]; rfl, hB.out⟩
            · have q1' : (191 : Int) < ((zs[k]?.getD 0 : Nat) : Int) := by omega
              generalize zs[k]?.getD 0 = y at *
              go_wp2
              go_ret
              exact ⟨by rw [HF.out]; rfl, hB.out⟩
          · have q1' : (128 : Int) ≤ ((zs[k]?.getD 0 : Nat) : Int) := by omega
            have q2' : ((zs[k]?.getD 0 : Nat) : Int) ≤ 191 := by omega
            have HK' : Hid (contB zs (k + 1) = true) := Lib.hid (by rw [contB_succ zs k hk1, HK.out]; simp; omega)
            have HS : Hid (accZ 224 zs (k + 1) = 64 * accZ 224 zs k + ((zs[k]?.getD 0 : Nat) : Int) - 128) := Lib.hid (by
              obtain ⟨q, rfl⟩ : ∃ q, k = q + 1 := ⟨k - 1, by omega⟩
              rfl)
            clear q1 HBD
            generalize zs[k]?.getD 0 = y at *
            generalize accZ 224 zs k = a at *
            go_wp2
            go_roundw
            case rel => exact ⟨k + 1, by omega, by omega, by go_num, by rw [HS.out], HK', hB⟩
            case measure => simp [intOf]; omega
        · obtain rfl : k = 3 := by omega
          have HF : Hid (numN 224 16 3 zs = accZ 224 zs 3) := Lib.hid (by rw [HN.out, if_pos HK.out])
          go_wp2
          go_ret
          exact ⟨by rw [HF.out]; rfl, hB.out⟩

set_option maxRecDepth 100000 in
set_option maxHeartbeats 1000000 in
theorem number_4 (b off c : Nat) (zs : List Nat) (hn : zs.length = 4) (w : World) (hR : BS w w.heap.size (some ⟨b, off, none⟩) zs) :
    Calls Tryd.prog 39 #[.slice (some ⟨b, off, none⟩) 4 c] w fun e w' => e = .returned (.int .i32 (numN 240 8 4 zs)) ∧ Below w.heap.size w w' := by
  obtain ⟨b', off', e, hb, hc⟩ := hR.2 (by rintro rfl; simp at hn)
  obtain ⟨rfl, rfl⟩ : b = b' ∧ off = off' := by simpa using e
  have HZ : Hid (∀ k, zs[k]?.getD 0 < 256) := Lib.hid fun k => by
    rcases Nat.lt_or_ge k zs.length with h | h
    · rw [List.getElem?_eq_getElem h]; exact hR.1 _ (List.getElem_mem _)
    · rw [List.getElem?_eq_none h]; decide
  have hc0 : w.cell? ⟨b, off, none⟩ = some (.int .u8 (zs[0]?.getD 0 : Nat)) := hc 0 (by omega)
  have HC : Hid (∀ W, Below w.heap.size w W → ∀ k, k < 4 → W.cell? ⟨b, off + k, none⟩ = some (.int .u8 (zs[k]?.getD 0 : Nat))) := Lib.hid fun W hW k hk => (hW.cell (p := ⟨b, off + k, none⟩) hb).trans (hc k (by omega))
  have h256 := HZ.out 0
  have h256' : ((zs[0]?.getD 0 : Nat) : Int) < 256 := by omega
  have hA : Below w.heap.size w (w.alloc (.cells #[.int .i32 0, .int .i32 0, .int .i32 192, .int .i32 224, .int .i32 240] 21)) := (Below.refl _ _).alloc (Nat.le_refl _) _
  have hA2 : Below w.heap.size w ((w.alloc (.cells #[.int .i32 0, .int .i32 0, .int .i32 192, .int .i32 224, .int .i32 240] 21)).alloc (.cells #[.int .i32 0, .int .i32 0, .int .i32 32, .int .i32 16, .int .i32 8] 21)) := hA.alloc hA.size _
  have k0 := (hA.cell (p := ⟨b, off, none⟩) hb).trans hc0
  have k2 := (hA2.cell (p := ⟨b, off, none⟩) hb).trans hc0
  have HA := Lib.hid hA
  have HA2 := Lib.hid hA2
  clear hc hR hA hA2
  by_cases g1 : zs[0]?.getD 0 < 240
  · have HN : Hid (numN 240 8 4 zs = -1) := Lib.hid (by unfold numN; rw [if_pos (.inl g1)])
    have g1' : ((zs[0]?.getD 0 : Nat) : Int) < 240 := by omega
    generalize zs[0]?.getD 0 = z at *
    go_enter Tryd.func39, Tryd.ntmps39
    go_wp2
    go_ret
    exact ⟨by rw [HN.out]; rfl, HA.out⟩
  · by_cases g2 : 240 + 8 ≤ zs[0]?.getD 0
    · have HN : Hid (numN 240 8 4 zs = -1) := Lib.hid (by unfold numN; rw [if_pos (.inr g2)])
      have g1' : (240 : Int) ≤ ((zs[0]?.getD 0 : Nat) : Int) := by omega
      have g2' : (240 + 8 : Int) ≤ ((zs[0]?.getD 0 : Nat) : Int) := by omega
      generalize zs[0]?.getD 0 = z at *
      go_enter Tryd.func39, Tryd.ntmps39
      go_wp2
      go_ret
      exact ⟨by rw [HN.out]; rfl, HA2.out⟩
    · have HN : Hid (numN 240 8 4 zs = if contB zs 4 = true then accZ 240 zs 4 else -1) := Lib.hid (by unfold numN; rw [if_neg (by omega)])
      have g1' : (240 : Int) ≤ ((zs[0]?.getD 0 : Nat) : Int) := by omega
      have g2' : ((zs[0]?.getD 0 : Nat) : Int) < (240 + 8 : Int) := by omega
      have HBD : Hid (∀ k, k ≤ 4 → contB zs k = true → 0 ≤ accZ 240 zs k ∧ accZ 240 zs k ≤ 8388608) := Lib.hid fun k => accZ_bd' 240 8 (by omega) zs (by omega) (by omega) k
      have H1 : Hid (accZ 240 zs 1 = ((zs[0]?.getD 0 : Nat) : Int) - 240) := Lib.hid rfl
      generalize zs[0]?.getD 0 = z at *
      go_enter Tryd.func39, Tryd.ntmps39
      go_wp2
      go_loopw [5, 6] (fun r i wr => ∃ k : Nat, 1 ≤ k ∧ k ≤ 4 ∧ i = .int .i64 k ∧ r = .int .i32 (accZ 240 zs k) ∧ Hid (contB zs k = true) ∧ Hid (Below w.heap.size w wr)) (fun _ i _ => 4 - (intOf i).toNat)
      case atStart => exact ⟨1, Nat.le_refl _, by omega, rfl, by rw [H1.out], Lib.hid rfl, HA2⟩
      case round =>
        obtain ⟨k, hk1, hkn, rfl, rfl, HK, hB⟩ := hrel
        obtain ⟨a0, a1⟩ := HBD.out k (by omega) HK.out
        by_cases hlt : k < 4
        · have hck := HC.out wr hB.out k hlt
          have hz := HZ.out k
          have hz' : ((zs[k]?.getD 0 : Nat) : Int) < 256 := by omega
          by_cases q1 : zs[k]?.getD 0 < 128 ∨ 191 < zs[k]?.getD 0
          · have HF : Hid (numN 240 8 4 zs = -1) := Lib.hid (by rw [HN.out, contB_no zs k 4 hk1 hlt q1]; rfl)
            rcases q1 with q1 | q1
            · have q1' : ((zs[k]?.getD 0 : Nat) : Int) < 128 := by omega
              generalize zs[k]?.getD 0 = y at *
              go_wp2
              go_ret
              exact ⟨by rw [HF.out]; rfl, hB.out⟩
            · have q1' : (191 : Int) < ((zs[k]?.getD 0 : Nat) : Int) := by omega
              generalize zs[k]?.getD 0 = y at *
              go_wp2
              go_ret
              exact ⟨by rw [HF.out]; rfl, hB.out⟩
          · have q1' : (128 : Int) ≤ ((zs[k]?.getD 0 : Nat) : Int) := by omega
            have q2' : ((zs[k]?.getD 0 : Nat) : Int) ≤ 191 := by omega
            have HK' : Hid (contB zs (k + 1) = true) := Lib.hid (by rw [contB_succ zs k hk1, HK.out]; simp; omega)
            have HS : Hid (accZ 240 zs (k + 1) = 64 * accZ 240 zs k + ((zs[k]?.getD 0 : Nat) : Int) - 128) := Lib.hid (by
              obtain ⟨q, rfl⟩ : ∃ q, k = q + 1 := ⟨k - 1, by omega⟩
              rfl)
            clear q1 HBD
            generalize zs[k]?.getD 0 = y at *
            generalize accZ 240 zs k = a at *
            go_wp2
            go_roundw
            case rel => exact ⟨k + 1, by omega, by omega, by go_num, by rw [HS.out], HK', hB⟩
            case measure => simp [intOf]; omega
        · obtain rfl : k = 4 := by omega
          have HF : Hid (numN 240 8 4 zs = accZ 240 zs 4) := Lib.hid (by rw [HN.out, if_pos HK.out])
          go_wp2
          go_ret
          exact ⟨by rw [HF.out]; rfl, hB.out⟩

theorem number_any_u (A : Option Addr) (zs : List Nat) (n c : Nat) (hn : n = zs.length) (w : World) (hR : BS w w.heap.size A zs) :
    Calls Tryd.prog 39 #[.slice A n c] w fun e w' => e = .returned (.int .i32 (numZ_u zs)) ∧ Below w.heap.size w w' := by
  unfold numZ_u
  rcases (by omega : n = 0 ∨ n = 1 ∨ n = 2 ∨ n = 3 ∨ n = 4 ∨ 4 < n) with h | h | h | h | h | h
  · rw [← hn, h]
    exact number_0 A c w
  · have hl : 0 < zs.length := by omega
    obtain ⟨b, off, rfl, _, hc⟩ := hR.2 (List.length_pos_iff.1 hl)
    have hz : zs[0]?.getD 0 < 256 := by rw [List.getElem?_eq_getElem hl]; exact hR.1 _ (List.getElem_mem _)
    rw [← hn, h]
    exact number_1 b off c _ w hz (hc 0 hl)
  · obtain ⟨b, off, rfl, _, _⟩ := hR.2 (List.length_pos_iff.1 (by omega))
    have := number_2 b off c zs (by omega) w hR
    rw [← hn, h]
    exact this
  · obtain ⟨b, off, rfl, _, _⟩ := hR.2 (List.length_pos_iff.1 (by omega))
    have := number_3 b off c zs (by omega) w hR
    rw [← hn, h]
    exact this
  · obtain ⟨b, off, rfl, _, _⟩ := hR.2 (List.length_pos_iff.1 (by omega))
    have := number_4 b off c zs (by omega) w hR
    rw [← hn, h]
    exact this
  · rw [← hn, if_neg (by omega), if_neg (by omega), if_neg (by omega), if_neg (by omega)]
    exact number_5 A n c h w

end Go.Proofs.YtmmkcfjncpcabaaDoor

namespace Go.Proofs.YtmmkcfjncpcabaaDoor
open Go.RowKit

set_option maxHeartbeats 400000 in
theorem scalar_any (r : Int) (w : World) :
    Calls Tryd.prog 64 #[.int .i32 r] w fun e w' => e = .returned (.bool (scalarB r)) ∧ w = w' := by
  have hs : scalarB r = decide ((0 ≤ r ∧ r < 55296) ∨ (57343 < r ∧ r ≤ 1114111)) := rfl
  rcases (by omega : r < 0 ∨ (0 ≤ r ∧ r < 55296) ∨ (55296 ≤ r ∧ r ≤ 57343) ∨ (57343 < r ∧ r ≤ 1114111) ∨ 1114111 < r) with h | ⟨h, h'⟩ | ⟨h, h'⟩ | ⟨h, h'⟩ | h
  · rw [decide_eq_false (by omega)] at hs
    rw [hs]; clear hs
    go_enter Tryd.func64, Tryd.ntmps64
    go_wp2
    go_ret
    exact ⟨rfl, rfl⟩
  · rw [decide_eq_true (by omega)] at hs
    rw [hs]; clear hs
    go_enter Tryd.func64, Tryd.ntmps64
    go_wp2
    go_ret
    exact ⟨rfl, rfl⟩
  · rw [decide_eq_false (by omega)] at hs
    have h0 : 0 ≤ r := by omega
    rw [hs]; clear hs
    go_enter Tryd.func64, Tryd.ntmps64
    go_wp2
    go_ret
    exact ⟨congrArg (fun b => Ending.returned (.bool b)) (by simp; omega), rfl⟩
  · rw [decide_eq_true (by omega)] at hs
    have h0 : 0 ≤ r := by omega
    have h1 : 55296 ≤ r := by omega
    rw [hs]; clear hs
    go_enter Tryd.func64, Tryd.ntmps64
    go_wp2
    go_ret
    exact ⟨rfl, rfl⟩
  · rw [decide_eq_false (by omega)] at hs
    have h0 : 0 ≤ r := by omega
    have h1 : 55296 ≤ r := by omega
    have h2 : 57343 < r := by omega
    rw [hs]; clear hs
    go_enter Tryd.func64, Tryd.ntmps64
    go_wp2
    go_ret
    exact ⟨congrArg (fun b => Ending.returned (.bool b)) (by simp; omega), rfl⟩

/-- The n bytes of a number. -/
def putN : Nat → Int → List Nat
  | 2, r => [192 + (r / 64).toNat, 128 + (r % 64).toNat]
  | 3, r => [224 + (r / 64 / 64).toNat, 128 + (r / 64 % 64).toNat, 128 + (r % 64).toNat]
  | 4, r => [240 + (r / 64 / 64 / 64).toNat, 128 + (r / 64 / 64 % 64).toNat, 128 + (r / 64 % 64).toNat, 128 + (r % 64).toNat]
  | _, r => [r.toNat]

set_option maxRecDepth 100000 in
set_option maxHeartbeats 1000000 in
theorem refput_1 (r : Int) (h0 : 0 ≤ r) (h1 : r < 128) (hs : scalarB r = true) (w : World) :
    Calls Tryd.prog 51 #[.int .i32 r] w fun e w' => ∃ A c, e = .returned (.slice A 1 c) ∧ BS w' w'.heap.size A (putN 1 r) ∧ Below w.heap.size w w' := by
  have hv := scalar_any r
  rw [hs] at hv
  clear hs
  go_enter Tryd.func51, Tryd.ntmps51
  go_wp2_with (go_at_call 64; refine (hv _).mono ?_; clear hv; rintro e w1 ⟨rfl, rfl⟩)
  have hA : Below w.heap.size w (w.alloc (.cells #[.int .i32 127, .int .i32 2047, .int .i32 65535] 21)) := (Below.refl _ _).alloc (Nat.le_refl _) _
  have HA := Lib.hid hA
  clear hA
  go_loopw [3, 13] (fun n i wr => wr = w.alloc (.cells #[.int .i32 127, .int .i32 2047, .int .i32 65535] 21) ∧ ((n = .int .i64 1 ∧ i = .int .i64 0) ∨ (n = .int .i64 1 ∧ i = .int .i64 1) ∨ (n = .int .i64 1 ∧ i = .int .i64 2) ∨ (n = .int .i64 1 ∧ i = .int .i64 3))) (fun _ i _ => 3 - (intOf i).toNat)
  case atStart => exact ⟨rfl, .inl ⟨rfl, rfl⟩⟩
  case round =>
    obtain ⟨rfl, ⟨rfl, rfl⟩ | ⟨rfl, rfl⟩ | ⟨rfl, rfl⟩ | ⟨rfl, rfl⟩⟩ := hrel
    · go_wp2
      go_roundw
      case rel => exact ⟨trivial, .inr (.inl ⟨rfl, rfl⟩)⟩
      case measure => simp [intOf]
    · go_wp2
      go_roundw
      case rel => exact ⟨trivial, .inr (.inr (.inl ⟨rfl, rfl⟩))⟩
      case measure => simp [intOf]
    · go_wp2
      go_roundw
      case rel => exact ⟨trivial, .inr (.inr (.inr (⟨rfl, rfl⟩)))⟩
      case measure => simp [intOf]
    · go_wp2
      go_ret
      have hr : Value.int .u8 r = Value.int .u8 (r.toNat : Nat) := by rw [Int.toNat_of_nonneg h0]
      refine ⟨_, _, rfl, ?_, HA.out.alloc HA.out.size _⟩
      rw [hr]
      have hb := bs_new (w.alloc (.cells #[.int .i32 127, .int .i32 2047, .int .i32 65535] 21)) [r.toNat] (by simp; omega)
      rw [show (w.alloc (.cells #[.int .i32 127, .int .i32 2047, .int .i32 65535] 21)).heap.size = w.heap.size + 1 from by simp] at hb
      exact hb

set_option maxRecDepth 100000 in
set_option maxHeartbeats 1000000 in
theorem refput_2 (r : Int) (h0 : 128 ≤ r) (h1 : r < 2048) (hs : scalarB r = true) (w : World) :
    Calls Tryd.prog 51 #[.int .i32 r] w fun e w' => ∃ A c, e = .returned (.slice A 2 c) ∧ BS w' w'.heap.size A (putN 2 r) ∧ Below w.heap.size w w' := by
  have hv := scalar_any r
  rw [hs] at hv
  clear hs
  have g0 : (127 : Int) < r := by omega
  have hmk : ∀ W, (Instr.makeSlice 22 (.int .i64 2) (.int .i64 2)).run Tryd.prog W = .ok (.slice (some ⟨W.heap.size, 0, none⟩) 2 2) (W.alloc (.cells #[.int .u8 0, .int .u8 0] 5)) := fun _ => by kernel_rfl
  go_enter Tryd.func51, Tryd.ntmps51
  go_wp2_with (go_at_call 64; refine (hv _).mono ?_; clear hv; rintro e w1 ⟨rfl, rfl⟩)
  have hA : Below w.heap.size w (w.alloc (.cells #[.int .i32 127, .int .i32 2047, .int .i32 65535] 21)) := (Below.refl _ _).alloc (Nat.le_refl _) _
  have HA := Lib.hid hA
  clear hA
  go_loopw [3, 13] (fun n i wr => wr = w.alloc (.cells #[.int .i32 127, .int .i32 2047, .int .i32 65535] 21) ∧ ((n = .int .i64 1 ∧ i = .int .i64 0) ∨ (n = .int .i64 2 ∧ i = .int .i64 1) ∨ (n = .int .i64 2 ∧ i = .int .i64 2) ∨ (n = .int .i64 2 ∧ i = .int .i64 3))) (fun _ i _ => 3 - (intOf i).toNat)
  case atStart => exact ⟨rfl, .inl ⟨rfl, rfl⟩⟩
  case round =>
    obtain ⟨rfl, ⟨rfl, rfl⟩ | ⟨rfl, rfl⟩ | ⟨rfl, rfl⟩ | ⟨rfl, rfl⟩⟩ := hrel
    · go_wp2
      go_roundw
      case rel => exact ⟨trivial, .inr (.inl ⟨rfl, rfl⟩)⟩
      case measure => simp [intOf]
    · go_wp2
      go_roundw
      case rel => exact ⟨trivial, .inr (.inr (.inl ⟨rfl, rfl⟩))⟩
      case measure => simp [intOf]
    · go_wp2
      go_roundw
      case rel => exact ⟨trivial, .inr (.inr (.inr (⟨rfl, rfl⟩)))⟩
      case measure => simp [intOf]
    · go_wp2
      go_loopw [0, 7] (fun x i wr => (x = .int .i32 (r) ∧ i = .int .i64 1 ∧ wr = (w.alloc (.cells #[.int .i32 127, .int .i32 2047, .int .i32 65535] 21)).alloc (.cells #[.int .u8 0, .int .u8 0] 5)) ∨ (x = .int .i32 (r / 64) ∧ i = .int .i64 0 ∧ wr = (w.alloc (.cells #[.int .i32 127, .int .i32 2047, .int .i32 65535] 21)).alloc (.cells #[.int .u8 0, .int .u8 (128 + r % 64)] 5))) (fun _ i _ => (intOf i).toNat)
      case atStart => exact .inl ⟨rfl, rfl, rfl⟩
      case round =>
        obtain ⟨rfl, rfl, rfl⟩ | ⟨rfl, rfl, rfl⟩ := hrel
        · go_wp2
          go_roundw
          case rel => exact .inr (⟨rfl, rfl, trivial⟩)
          case measure => simp [intOf]
        · go_wp2
          go_ret
          have hb := bs_new (w.alloc (.cells #[.int .i32 127, .int .i32 2047, .int .i32 65535] 21)) [192 + (r / 64).toNat, 128 + (r % 64).toNat] (by simp only [List.mem_cons, List.not_mem_nil, or_false]; omega)
          rw [show (w.alloc (.cells #[.int .i32 127, .int .i32 2047, .int .i32 65535] 21)).heap.size = w.heap.size + 1 from by simp] at hb
          have hL := HA.out.alloc HA.out.size (.cells #[.int .u8 (192 + r / 64), .int .u8 (128 + r % 64)] 5)
          have e0 : (192 + r / 64 : Int) = ((192 + (r / 64).toNat : Nat) : Int) := by omega
          have e1 : (128 + r % 64 : Int) = ((128 + (r % 64).toNat : Nat) : Int) := by omega
          rw [e0, e1] at hL ⊢
          have hB := (Below.refl _ _).alloc (Nat.le_refl ((w.alloc (.cells #[.int .i32 127, .int .i32 2047, .int .i32 65535] 21)).alloc (.cells ([192 + (r / 64).toNat, 128 + (r % 64).toNat].map fun z => Value.int .u8 (z : Nat)).toArray 5)).heap.size) (.cells #[.int .i32 0, .int .i32 0, .int .i32 192, .int .i32 224, .int .i32 240] 21)
          exact ⟨_, _, rfl, (hb.below hB).more hB.size, hL.alloc hL.size _⟩

set_option maxRecDepth 100000 in
set_option maxHeartbeats 1000000 in
theorem refput_3 (r : Int) (h0 : 2048 ≤ r) (h1 : r < 65536) (hs : scalarB r = true) (w : World) :
    Calls Tryd.prog 51 #[.int .i32 r] w fun e w' => ∃ A c, e = .returned (.slice A 3 c) ∧ BS w' w'.heap.size A (putN 3 r) ∧ Below w.heap.size w w' := by
  have hv := scalar_any r
  rw [hs] at hv
  clear hs
  have g0 : (127 : Int) < r := by omega
  have g1 : (2047 : Int) < r := by omega
  have hmk : ∀ W, (Instr.makeSlice 22 (.int .i64 3) (.int .i64 3)).run Tryd.prog W = .ok (.slice (some ⟨W.heap.size, 0, none⟩) 3 3) (W.alloc (.cells #[.int .u8 0, .int .u8 0, .int .u8 0] 5)) := fun _ => by kernel_rfl
  go_enter Tryd.func51, Tryd.ntmps51
  go_wp2_with (go_at_call 64; refine (hv _).mono ?_; clear hv; rintro e w1 ⟨rfl, rfl⟩)
  have hA : Below w.heap.size w (w.alloc (.cells #[.int .i32 127, .int .i32 2047, .int .i32 65535] 21)) := (Below.refl _ _).alloc (Nat.le_refl _) _
  have HA := Lib.hid hA
  clear hA
  go_loopw [3, 13] (fun n i wr => wr = w.alloc (.cells #[.int .i32 127, .int .i32 2047, .int .i32 65535] 21) ∧ ((n = .int .i64 1 ∧ i = .int .i64 0) ∨ (n = .int .i64 2 ∧ i = .int .i64 1) ∨ (n = .int .i64 3 ∧ i = .int .i64 2) ∨ (n = .int .i64 3 ∧ i = .int .i64 3))) (fun _ i _ => 3 - (intOf i).toNat)
  case atStart => exact ⟨rfl, .inl ⟨rfl, rfl⟩⟩
  case round =>
    obtain ⟨rfl, ⟨rfl, rfl⟩ | ⟨rfl, rfl⟩ | ⟨rfl, rfl⟩ | ⟨rfl, rfl⟩⟩ := hrel
    · go_wp2
      go_roundw
      case rel => exact ⟨trivial, .inr (.inl ⟨rfl, rfl⟩)⟩
      case measure => simp [intOf]
    · go_wp2
      go_roundw
      case rel => exact ⟨trivial, .inr (.inr (.inl ⟨rfl, rfl⟩))⟩
      case measure => simp [intOf]
    · go_wp2
      go_roundw
      case rel => exact ⟨trivial, .inr (.inr (.inr (⟨rfl, rfl⟩)))⟩
      case measure => simp [intOf]
    · go_wp2
      go_loopw [0, 7] (fun x i wr => (x = .int .i32 (r) ∧ i = .int .i64 2 ∧ wr = (w.alloc (.cells #[.int .i32 127, .int .i32 2047, .int .i32 65535] 21)).alloc (.cells #[.int .u8 0, .int .u8 0, .int .u8 0] 5)) ∨ (x = .int .i32 (r / 64) ∧ i = .int .i64 1 ∧ wr = (w.alloc (.cells #[.int .i32 127, .int .i32 2047, .int .i32 65535] 21)).alloc (.cells #[.int .u8 0, .int .u8 0, .int .u8 (128 + r % 64)] 5)) ∨ (x = .int .i32 (r / 64 / 64) ∧ i = .int .i64 0 ∧ wr = (w.alloc (.cells #[.int .i32 127, .int .i32 2047, .int .i32 65535] 21)).alloc (.cells #[.int .u8 0, .int .u8 (128 + r / 64 % 64), .int .u8 (128 + r % 64)] 5))) (fun _ i _ => (intOf i).toNat)
      case atStart => exact .inl ⟨rfl, rfl, rfl⟩
      case round =>
        obtain ⟨rfl, rfl, rfl⟩ | ⟨rfl, rfl, rfl⟩ | ⟨rfl, rfl, rfl⟩ := hrel
        · go_wp2
          go_roundw
          case rel => exact .inr (.inl ⟨rfl, rfl, trivial⟩)
          case measure => simp [intOf]
        · go_wp2
          go_roundw
          case rel => exact .inr (.inr (⟨rfl, rfl, trivial⟩))
          case measure => simp [intOf]
        · go_wp2
          go_ret
          have hb := bs_new (w.alloc (.cells #[.int .i32 127, .int .i32 2047, .int .i32 65535] 21)) [224 + (r / 64 / 64).toNat, 128 + (r / 64 % 64).toNat, 128 + (r % 64).toNat] (by simp only [List.mem_cons, List.not_mem_nil, or_false]; omega)
          rw [show (w.alloc (.cells #[.int .i32 127, .int .i32 2047, .int .i32 65535] 21)).heap.size = w.heap.size + 1 from by simp] at hb
          have hL := HA.out.alloc HA.out.size (.cells #[.int .u8 (224 + r / 64 / 64), .int .u8 (128 + r / 64 % 64), .int .u8 (128 + r % 64)] 5)
          have e0 : (224 + r / 64 / 64 : Int) = ((224 + (r / 64 / 64).toNat : Nat) : Int) := by omega
          have e1 : (128 + r / 64 % 64 : Int) = ((128 + (r / 64 % 64).toNat : Nat) : Int) := by omega
          have e2 : (128 + r % 64 : Int) = ((128 + (r % 64).toNat : Nat) : Int) := by omega
          rw [e0, e1, e2] at hL ⊢
          have hB := (Below.refl _ _).alloc (Nat.le_refl ((w.alloc (.cells #[.int .i32 127, .int .i32 2047, .int .i32 65535] 21)).alloc (.cells ([224 + (r / 64 / 64).toNat, 128 + (r / 64 % 64).toNat, 128 + (r % 64).toNat].map fun z => Value.int .u8 (z : Nat)).toArray 5)).heap.size) (.cells #[.int .i32 0, .int .i32 0, .int .i32 192, .int .i32 224, .int .i32 240] 21)
          exact ⟨_, _, rfl, (hb.below hB).more hB.size, hL.alloc hL.size _⟩

set_option maxRecDepth 100000 in
set_option maxHeartbeats 1000000 in
theorem refput_4 (r : Int) (h0 : 65536 ≤ r) (h1 : r < 1114112) (hs : scalarB r = true) (w : World) :
    Calls Tryd.prog 51 #[.int .i32 r] w fun e w' => ∃ A c, e = .returned (.slice A 4 c) ∧ BS w' w'.heap.size A (putN 4 r) ∧ Below w.heap.size w w' := by
  have hv := scalar_any r
  rw [hs] at hv
  clear hs
  have g0 : (127 : Int) < r := by omega
  have g1 : (2047 : Int) < r := by omega
  have g2 : (65535 : Int) < r := by omega
  have hmk : ∀ W, (Instr.makeSlice 22 (.int .i64 4) (.int .i64 4)).run Tryd.prog W = .ok (.slice (some ⟨W.heap.size, 0, none⟩) 4 4) (W.alloc (.cells #[.int .u8 0, .int .u8 0, .int .u8 0, .int .u8 0] 5)) := fun _ => by kernel_rfl
  go_enter Tryd.func51, Tryd.ntmps51
  go_wp2_with (go_at_call 64; refine (hv _).mono ?_; clear hv; rintro e w1 ⟨rfl, rfl⟩)
  have hA : Below w.heap.size w (w.alloc (.cells #[.int .i32 127, .int .i32 2047, .int .i32 65535] 21)) := (Below.refl _ _).alloc (Nat.le_refl _) _
  have HA := Lib.hid hA
  clear hA
  go_loopw [3, 13] (fun n i wr => wr = w.alloc (.cells #[.int .i32 127, .int .i32 2047, .int .i32 65535] 21) ∧ ((n = .int .i64 1 ∧ i = .int .i64 0) ∨ (n = .int .i64 2 ∧ i = .int .i64 1) ∨ (n = .int .i64 3 ∧ i = .int .i64 2) ∨ (n = .int .i64 4 ∧ i = .int .i64 3))) (fun _ i _ => 3 - (intOf i).toNat)
  case atStart => exact ⟨rfl, .inl ⟨rfl, rfl⟩⟩
  case round =>
    obtain ⟨rfl, ⟨rfl, rfl⟩ | ⟨rfl, rfl⟩ | ⟨rfl, rfl⟩ | ⟨rfl, rfl⟩⟩ := hrel
    · go_wp2
      go_roundw
      case rel => exact ⟨trivial, .inr (.inl ⟨rfl, rfl⟩)⟩
      case measure => simp [intOf]
    · go_wp2
      go_roundw
      case rel => exact ⟨trivial, .inr (.inr (.inl ⟨rfl, rfl⟩))⟩
      case measure => simp [intOf]
    · go_wp2
      go_roundw
      case rel => exact ⟨trivial, .inr (.inr (.inr (⟨rfl, rfl⟩)))⟩
      case measure => simp [intOf]
    · go_wp2
      go_loopw [0, 7] (fun x i wr => (x = .int .i32 (r) ∧ i = .int .i64 3 ∧ wr = (w.alloc (.cells #[.int .i32 127, .int .i32 2047, .int .i32 65535] 21)).alloc (.cells #[.int .u8 0, .int .u8 0, .int .u8 0, .int .u8 0] 5)) ∨ (x = .int .i32 (r / 64) ∧ i = .int .i64 2 ∧ wr = (w.alloc (.cells #[.int .i32 127, .int .i32 2047, .int .i32 65535] 21)).alloc (.cells #[.int .u8 0, .int .u8 0, .int .u8 0, .int .u8 (128 + r % 64)] 5)) ∨ (x = .int .i32 (r / 64 / 64) ∧ i = .int .i64 1 ∧ wr = (w.alloc (.cells #[.int .i32 127, .int .i32 2047, .int .i32 65535] 21)).alloc (.cells #[.int .u8 0, .int .u8 0, .int .u8 (128 + r / 64 % 64), .int .u8 (128 + r % 64)] 5)) ∨ (x = .int .i32 (r / 64 / 64 / 64) ∧ i = .int .i64 0 ∧ wr = (w.alloc (.cells #[.int .i32 127, .int .i32 2047, .int .i32 65535] 21)).alloc (.cells #[.int .u8 0, .int .u8 (128 + r / 64 / 64 % 64), .int .u8 (128 + r / 64 % 64), .int .u8 (128 + r % 64)] 5))) (fun _ i _ => (intOf i).toNat)
      case atStart => exact .inl ⟨rfl, rfl, rfl⟩
      case round =>
        obtain ⟨rfl, rfl, rfl⟩ | ⟨rfl, rfl, rfl⟩ | ⟨rfl, rfl, rfl⟩ | ⟨rfl, rfl, rfl⟩ := hrel
        · go_wp2
          go_roundw
          case rel => exact .inr (.inl ⟨rfl, rfl, trivial⟩)
          case measure => simp [intOf]
        · go_wp2
          go_roundw
          case rel => exact .inr (.inr (.inl ⟨rfl, rfl, trivial⟩))
          case measure => simp [intOf]
        · go_wp2
          go_roundw
          case rel => exact .inr (.inr (.inr (⟨rfl, rfl, trivial⟩)))
          case measure => simp [intOf]
        · go_wp2
          go_ret
          have hb := bs_new (w.alloc (.cells #[.int .i32 127, .int .i32 2047, .int .i32 65535] 21)) [240 + (r / 64 / 64 / 64).toNat, 128 + (r / 64 / 64 % 64).toNat, 128 + (r / 64 % 64).toNat, 128 + (r % 64).toNat] (by simp only [List.mem_cons, List.not_mem_nil, or_false]; omega)
          rw [show (w.alloc (.cells #[.int .i32 127, .int .i32 2047, .int .i32 65535] 21)).heap.size = w.heap.size + 1 from by simp] at hb
          have hL := HA.out.alloc HA.out.size (.cells #[.int .u8 (240 + r / 64 / 64 / 64), .int .u8 (128 + r / 64 / 64 % 64), .int .u8 (128 + r / 64 % 64), .int .u8 (128 + r % 64)] 5)
          have e0 : (240 + r / 64 / 64 / 64 : Int) = ((240 + (r / 64 / 64 / 64).toNat : Nat) : Int) := by omega
          have e1 : (128 + r / 64 / 64 % 64 : Int) = ((128 + (r / 64 / 64 % 64).toNat : Nat) : Int) := by omega
          have e2 : (128 + r / 64 % 64 : Int) = ((128 + (r / 64 % 64).toNat : Nat) : Int) := by omega
          have e3 : (128 + r % 64 : Int) = ((128 + (r % 64).toNat : Nat) : Int) := by omega
          rw [e0, e1, e2, e3] at hL ⊢
          have hB := (Below.refl _ _).alloc (Nat.le_refl ((w.alloc (.cells #[.int .i32 127, .int .i32 2047, .int .i32 65535] 21)).alloc (.cells ([240 + (r / 64 / 64 / 64).toNat, 128 + (r / 64 / 64 % 64).toNat, 128 + (r / 64 % 64).toNat, 128 + (r % 64).toNat].map fun z => Value.int .u8 (z : Nat)).toArray 5)).heap.size) (.cells #[.int .i32 0, .int .i32 0, .int .i32 192, .int .i32 224, .int .i32 240] 21)
          exact ⟨_, _, rfl, (hb.below hB).more hB.size, hL.alloc hL.size _⟩

end Go.Proofs.YtmmkcfjncpcabaaDoor

namespace Go.Proofs.YtmmkcfjncpcabaaDoor
open Go.RowKit

/-- A scalar's bytes. -/
def putL (r : Int) : List Nat := if scalarB r = true then (if r < 128 then putN 1 r else if r < 2048 then putN 2 r else if r < 65536 then putN 3 r else putN 4 r) else []

theorem scalarB_bd {r : Int} (h : scalarB r = true) : 0 ≤ r ∧ r ≤ 1114111 := by
  have := of_decide_eq_true h
  omega

theorem refput_no (r : Int) (hs : scalarB r = false) (w : World) :
    Calls Tryd.prog 51 #[.int .i32 r] w fun e w' => e = .returned (.slice none 0 0) ∧ w = w' := by
  have hv := scalar_any r
  rw [hs] at hv
  clear hs
  go_enter Tryd.func51, Tryd.ntmps51
  go_wp2_with (go_at_call 64; refine (hv _).mono ?_; clear hv; rintro e w1 ⟨rfl, rfl⟩)
  go_ret
  exact ⟨rfl, rfl⟩

theorem refput_any (r : Int) (w : World) :
    Calls Tryd.prog 51 #[.int .i32 r] w fun e w' => ∃ A c, e = .returned (.slice A (putL r).length c) ∧ BS w' w'.heap.size A (putL r) ∧ Below w.heap.size w w' := by
  by_cases hs : scalarB r = true
  · obtain ⟨h0, h1⟩ := scalarB_bd hs
    unfold putL
    rw [if_pos hs]
    by_cases a : r < 128
    · rw [if_pos a]
      exact refput_1 r h0 a hs w
    rw [if_neg a]
    by_cases b : r < 2048
    · rw [if_pos b]
      exact refput_2 r (by omega) b hs w
    rw [if_neg b]
    by_cases c : r < 65536
    · rw [if_pos c]
      exact refput_3 r (by omega) c hs w
    rw [if_neg c]
    exact refput_4 r (by omega) (by omega) hs w
  · have hs' : scalarB r = false := by simpa using hs
    refine (refput_no r hs' w).mono ?_
    rintro e w' ⟨rfl, rfl⟩
    have e0 : putL r = [] := by unfold putL; rw [if_neg hs]
    rw [e0]
    exact ⟨none, 0, rfl, ⟨by simp, by simp⟩, Below.refl _ _⟩

/-- Bytes as a text. -/
def strL (zs : List Nat) : ByteArray := ⟨(zs.map UInt8.ofNat).toArray⟩
theorem strL_inj {zs ys : List Nat} (hz : ∀ z ∈ zs, z < 256) (hy : ∀ y ∈ ys, y < 256) (h : strL zs = strL ys) : zs = ys := by
  have h2 : zs.map UInt8.ofNat = ys.map UInt8.ofNat := by
    have := congrArg (fun b => b.data.toList) h
    simpa [strL] using this
  have back : ∀ l : List Nat, (∀ z ∈ l, z < 256) → (l.map UInt8.ofNat).map UInt8.toNat = l := fun l hl => by
    rw [List.map_map]
    refine (List.map_congr_left (g := id) fun z hz => ?_).trans (List.map_id _)
    have := hl z hz
    simp [UInt8.toNat_ofNat']
    omega
  rw [← back zs hz, ← back ys hy, h2]
theorem conv_str {w : World} {B : Nat} {A : Option Addr} {zs : List Nat} (n c : Nat) (hn : n = zs.length) (hR : BS w B A zs) :
    (Go.convert 22 9 (.slice A n c)).run Tryd.prog w = .ok (.string (strL zs)) w := by
  have back : ∀ (b off : Nat), (∀ k, k < zs.length → w.cell? ⟨b, off + k, none⟩ = some (.int .u8 (zs[k]?.getD 0))) → (Go.convert 22 9 (.slice (some ⟨b, off, none⟩) n c)).run Tryd.prog w = .ok (.string (strL zs)) w := fun b off hc => by
    have hl : (zs.map UInt8.ofNat).length = n := by rw [List.length_map]; exact hn.symm
    have := run_convert_bytes_back (P := Tryd.prog) w 22 9 5 ⟨b, off, none⟩ c (zs.map UInt8.ofNat) (by kernel_rfl) (by kernel_rfl) (by kernel_rfl) (fun j hj => by
      have hj' : j < zs.length := by simpa using hj
      have ea : (⟨b, off, none⟩ : Addr).add j = ⟨b, off + j, none⟩ := by simp [Addr.add]
      rw [ea, hc j hj']
      have hz : zs[j] < 256 := hR.1 _ (List.getElem_mem hj')
      simp [hj', Nat.mod_eq_of_lt hz])
    rw [hl] at this
    exact this
  by_cases hz : zs = []
  · subst hz
    simp at hn
    subst hn
    rcases A with _ | ⟨b, off, _ | p⟩
    · rw [run_convert_bytes_string w _ _ 5 none 0 c (by kernel_rfl) (by kernel_rfl) (by kernel_rfl)]
      rfl
    · exact back b off (fun k hk => by simp at hk)
    · rw [run_convert_bytes_string w _ _ 5 _ 0 c (by kernel_rfl) (by kernel_rfl) (by kernel_rfl)]
      rfl
  · obtain ⟨b, off, rfl, _, hc⟩ := hR.2 hz
    exact back b off hc

theorem putL_lt (r : Int) : ∀ z ∈ putL r, z < 256 := by
  unfold putL
  by_cases hs : scalarB r = true
  · obtain ⟨h0, h1⟩ := scalarB_bd hs
    rw [if_pos hs]
    split
    · intro z hz; simp only [putN, List.mem_cons, List.not_mem_nil, or_false] at hz; omega
    split
    · intro z hz; simp only [putN, List.mem_cons, List.not_mem_nil, or_false] at hz; omega
    split
    · intro z hz; simp only [putN, List.mem_cons, List.not_mem_nil, or_false] at hz; omega
    · intro z hz; simp only [putN, List.mem_cons, List.not_mem_nil, or_false] at hz; omega
  · rw [if_neg hs]; simp
theorem str_beq {zs ys : List Nat} (hz : ∀ z ∈ zs, z < 256) (hy : ∀ y ∈ ys, y < 256) : ((strL zs).toList == (strL ys).toList) = decide (zs = ys) := by
  rw [ByteArray.toList_eq, ByteArray.toList_eq]
  by_cases h : zs = ys
  · subst h; simp
  · rw [decide_eq_false h]
    have hn : strL zs ≠ strL ys := fun e => h (strL_inj hz hy e)
    have : (strL zs).data.toList ≠ (strL ys).data.toList := fun e => hn (by
      have e2 : (strL zs).data = (strL ys).data := by
        apply Array.ext'
        exact e
      unfold strL at e2 ⊢
      exact congrArg ByteArray.mk e2)
    simpa using this

theorem hconv_next {w1 W W' : World} {n c : Nat} {A : Option Addr} {zs : List Nat} (hc : Hid (∀ W, Below w1.heap.size w1 W → (Go.convert 22 9 (.slice A n c)).run Tryd.prog W = .ok (.string (strL zs)) W))
    (hb : Below w1.heap.size w1 W) (hb' : Below W.heap.size W W') : (Go.convert 22 9 (.slice A n c)).run Tryd.prog W' = .ok (.string (strL zs)) W' ∧ Below w1.heap.size w1 W' :=
  have h := hb.trans (hb'.mono hb.size)
  ⟨hc.out _ h, h⟩

set_option maxHeartbeats 2000000 in
theorem is_aux (A : Option Addr) (zs : List Nat) (n c : Nat) (hn : n = zs.length) (z : Int) (w : World) (hR : BS w w.heap.size A zs)
    (hnum : Calls Tryd.prog 39 #[.slice A n c] w fun e w' => e = .returned (.int .i32 z) ∧ Below w.heap.size w w') :
    Calls Tryd.prog 38 #[.slice A n c] w fun e w' => e = .returned (.bool (decide (0 ≤ z) && decide (putL z = zs))) ∧ Below w.heap.size w w' := by
  have HR := Lib.hid hR
  have HN := Lib.hid hn
  clear hR hn
  by_cases hz : z < 0
  · have hz0 : ¬ 0 ≤ z := by omega
    have HD : Hid ((decide (0 ≤ z) && decide (putL z = zs)) = false) := Lib.hid (by rw [decide_eq_false (by omega)]; rfl)
    generalize (decide (0 ≤ z) && decide (putL z = zs)) = d at *
    go_enter Tryd.func38, Tryd.ntmps38
    go_wp2_with (go_at_call 39; refine hnum.mono ?_; clear hnum; rintro e w1 ⟨rfl, hB⟩)
    first | go_region_with (fail) | fail
    all_goals
      go_wp2
      go_ret
      exact ⟨by rw [HD.out]; rfl, hB.drew⟩
  · have hz' : 0 ≤ z := by omega
    have HD : Hid ((decide (0 ≤ z) && decide (putL z = zs)) = decide (putL z = zs)) := Lib.hid (by rw [decide_eq_true hz']; rfl)
    generalize (decide (0 ≤ z) && decide (putL z = zs)) = d at *
    go_enter Tryd.func38, Tryd.ntmps38
    go_wp2_with (go_at_call 39; refine hnum.mono ?_; clear hnum; rintro e w1 ⟨rfl, hB⟩)
    have hcv : ∀ W, Below w1.heap.size w1 W → (Go.convert 22 9 (.slice A n c)).run Tryd.prog W = .ok (.string (strL zs)) W := fun W hW => conv_str n c HN.out ((HR.out.below hB).below (hW.mono hB.size))
    have hc1 := hcv _ (Below.refl _ _).drew
    have hb1 := (Below.refl w1.heap.size w1).drew
    have HCV := Lib.hid hcv
    clear hcv
    have HP : Hid (∀ W, Calls Tryd.prog 51 #[.int .i32 z] W fun e w' => (∃ A c, e = .returned (.slice A (putL z).length c) ∧ (Go.convert 22 9 (.slice A (putL z).length c)).run Tryd.prog w' = .ok (.string (strL (putL z))) w') ∧ Below W.heap.size W w') := Lib.hid fun W => (refput_any z W).mono (by
      rintro e w' ⟨A', c', rfl, hb, hB⟩
      exact ⟨⟨A', c', rfl, conv_str _ c' rfl hb⟩, hB⟩)
    have HE : Hid (((strL (putL z)).toList == (strL zs).toList) = decide (putL z = zs)) := Lib.hid (str_beq (putL_lt z) HR.out.1)
    generalize putL z = pl at *
    generalize pl.length = m at *
    go_region_with (go_at_call 51; (with_reducible refine (HP.out _).mono ?_); rintro e6 w6 ⟨⟨A6, c6, rfl, hcv6⟩, hb6⟩; have hc6 := (hconv_next HCV hb1 hb6).1)
    all_goals
      go_wp2
      go_ret
      refine ⟨?_, hB.trans ((hb1.trans (Below.mono hb6 hb1.size)).mono hB.size)⟩
      rw [HD.out]
      exact congrArg (fun b => Ending.returned (.bool b)) HE.out

/-- Are bytes a scalar's? -/
def isB (zs : List Nat) : Bool := decide (0 ≤ numZ_u zs) && decide (putL (numZ_u zs) = zs)
theorem is_any (A : Option Addr) (zs : List Nat) (n c : Nat) (hn : n = zs.length) (w : World) (hR : BS w w.heap.size A zs) :
    Calls Tryd.prog 38 #[.slice A n c] w fun e w' => e = .returned (.bool (isB zs)) ∧ Below w.heap.size w w' :=
  is_aux A zs n c hn (numZ_u zs) w hR (number_any_u A zs n c hn w hR)

end Go.Proofs.YtmmkcfjncpcabaaDoor

namespace Go.Proofs.YtmmkcfjncpcabaaDoor
open Go.RowKit

theorem enc_put (r : Int) (h : scalarB r = true) : Utf8.encode r = strL (putL r) := by
  obtain ⟨h0, h1⟩ := scalarB_bd h
  have hv : Utf8.valid r = true := by
    have := of_decide_eq_true h
    unfold Utf8.valid
    simp only [Bool.or_eq_true, Bool.and_eq_true, decide_eq_true_eq]
    omega
  obtain ⟨n, rfl⟩ := Int.eq_ofNat_of_zero_le h0
  unfold Utf8.encode putL strL
  rw [if_pos h]
  simp only [hv, if_true, Int.toNat_natCast]
  have e1 : ((n : Int) / 64).toNat = n / 64 := by omega
  have e2 : ((n : Int) % 64).toNat = n % 64 := by omega
  have e3 : ((n : Int) / 64 / 64).toNat = n / 4096 := by omega
  have e4 : ((n : Int) / 64 % 64).toNat = n / 64 % 64 := by omega
  have e5 : ((n : Int) / 64 / 64 / 64).toNat = n / 262144 := by omega
  have e6 : ((n : Int) / 64 / 64 % 64).toNat = n / 4096 % 64 := by omega
  by_cases a : n < 128
  · have a' : (n : Int) < 128 := by omega
    rw [if_pos a, if_pos a']
    simp [putN]
  have a' : ¬ (n : Int) < 128 := by omega
  rw [if_neg a, if_neg a']
  by_cases b : n < 2048
  · have b' : (n : Int) < 2048 := by omega
    rw [if_pos b, if_pos b']
    simp [putN, e1, e2]
  have b' : ¬ (n : Int) < 2048 := by omega
  rw [if_neg b, if_neg b']
  by_cases c : n < 65536
  · have c' : (n : Int) < 65536 := by omega
    rw [if_pos c, if_pos c']
    simp [putN, e2, e3, e4]
  have c' : ¬ (n : Int) < 65536 := by omega
  rw [if_neg c, if_neg c']
  simp [putN, e2, e4, e5, e6]

set_option maxHeartbeats 1000000 in
/-- What is read first where a scalar's bytes stand. -/
theorem dec_put_more (r : Int) (h : scalarB r = true) (more : List Nat) : decN (putL r ++ more) = (r.toNat, (putL r).length) := by
  have hsc := of_decide_eq_true h
  obtain ⟨h0, h1⟩ := scalarB_bd h
  obtain ⟨n, rfl⟩ := Int.eq_ofNat_of_zero_le h0
  unfold putL decN
  rw [if_pos h]
  by_cases a : (n : Int) < 128
  · rw [if_pos a]
    have a' : n < 128 := by omega
    simp [putN, Lib.decodeN, a']
  rw [if_neg a]
  by_cases b : (n : Int) < 2048
  · rw [if_pos b]
    simp only [putN, List.cons_append, List.nil_append, List.length_cons, List.getElem?_cons_zero, List.getElem?_cons_succ, Option.getD_some]
    unfold Lib.decodeN
    rw [if_neg (by omega), if_pos (by omega), if_pos (by omega)]
    refine Prod.ext ?_ rfl
    dsimp only
    omega
  rw [if_neg b]
  by_cases c : (n : Int) < 65536
  · rw [if_pos c]
    simp only [putN, List.cons_append, List.nil_append, List.length_cons, List.getElem?_cons_zero, List.getElem?_cons_succ, Option.getD_some]
    unfold Lib.decodeN
    rw [if_neg (by omega), if_neg (by omega), if_pos (by omega), if_pos (by omega)]
    refine Prod.ext ?_ rfl
    dsimp only
    omega
  rw [if_neg c]
  simp only [putN, List.cons_append, List.nil_append, List.length_cons, List.getElem?_cons_zero, List.getElem?_cons_succ, Option.getD_some]
  unfold Lib.decodeN
  rw [if_neg (by omega), if_neg (by omega), if_neg (by omega), if_pos (by omega), if_pos (by omega)]
  refine Prod.ext ?_ rfl
  dsimp only
  omega

set_option maxRecDepth 100000 in
theorem firstT_sz : ∀ z, z < 256 → Lib.firstT z % 8 ≤ (if z < 128 then 1 else if z < 224 then 2 else if z < 240 then 3 else 4) := by decide
theorem putL_len (r : Int) (h : scalarB r = true) : 0 < (putL r).length ∧ (putL r).length ≤ 4 := by
  unfold putL
  rw [if_pos h]
  split
  · simp [putN]
  split
  · simp [putN]
  split <;> simp [putN]
theorem full_put (r : Int) (h : scalarB r = true) (more : List Nat) : fullB (putL r ++ more) = true := by
  obtain ⟨h0, h1⟩ := scalarB_bd h
  have hlt := putL_lt r
  unfold fullB fullN fullX
  refine decide_eq_true ⟨by have := (putL_len r h).1; rw [List.length_append]; omega, .inl ?_⟩
  unfold putL at hlt ⊢
  rw [if_pos h] at hlt ⊢
  by_cases a : r < 128
  · rw [if_pos a] at hlt ⊢
    have := firstT_sz _ (hlt r.toNat (by simp [putN]))
    rw [if_pos (by omega)] at this
    simp only [putN, List.cons_append, List.nil_append, List.length_cons, List.getElem?_cons_zero, Option.getD_some]
    omega
  rw [if_neg a] at hlt ⊢
  by_cases b : r < 2048
  · rw [if_pos b] at hlt ⊢
    have := firstT_sz _ (hlt (192 + (r / 64).toNat) (by simp [putN]))
    rw [if_neg (by omega), if_pos (by omega)] at this
    simp only [putN, List.cons_append, List.nil_append, List.length_cons, List.getElem?_cons_zero, Option.getD_some]
    omega
  rw [if_neg b] at hlt ⊢
  by_cases c : r < 65536
  · rw [if_pos c] at hlt ⊢
    have := firstT_sz _ (hlt (224 + (r / 64 / 64).toNat) (by simp [putN]))
    rw [if_neg (by omega), if_neg (by omega), if_pos (by omega)] at this
    simp only [putN, List.cons_append, List.nil_append, List.length_cons, List.getElem?_cons_zero, Option.getD_some]
    omega
  rw [if_neg c] at hlt ⊢
  have := firstT_sz _ (hlt (240 + (r / 64 / 64 / 64).toNat) (by simp [putN]))
  rw [if_neg (by omega), if_neg (by omega), if_neg (by omega)] at this
  simp only [putN, List.cons_append, List.nil_append, List.length_cons, List.getElem?_cons_zero, Option.getD_some]
  omega
theorem first_put (r : Int) (h : scalarB r = true) (more : List Nat) : firstF (putL r ++ more) = (r.toNat, (putL r).length) := by
  unfold firstF
  rw [dec_put_more r h more]
  refine if_neg fun hh => ?_
  have hr : r = 65533 := by have := (scalarB_bd h).1; have := hh.1; dsimp only at this; omega
  subst hr
  exact absurd hh.2 (by decide)
theorem rd_put (r : Int) (h : scalarB r = true) (more : List Nat) : rdL (putL r ++ more) = (r.toNat, (putL r).length) :: rdL more := by
  rw [rdL_yes _ (full_put r h more), first_put r h more]
  dsimp only
  rw [List.drop_left]
/-- A scalar's bytes are read as this scalar, whatever stands behind them. -/
theorem all_put (r : Int) (h : scalarB r = true) (more : List Nat) : allL (putL r ++ more) = r.toNat :: allL more := by
  unfold allL
  rw [rd_put r h more]
  have es : sumB ((r.toNat, (putL r).length) :: rdL more) = (putL r).length + sumB (rdL more) := by simp [sumB]
  rw [es, List.length_append, List.map_cons, List.cons_append]
  congr 2
  by_cases hh : sumB (rdL more) < more.length
  · rw [if_pos hh, if_pos (by omega)]
  · rw [if_neg hh, if_neg (by omega)]

end Go.Proofs.YtmmkcfjncpcabaaDoor

namespace Go.Proofs.YtmmkcfjncpcabaaDoor
open Go.RowKit

theorem numZ_1 (a : Nat) : numZ_u [a] = a := rfl
theorem contB_2 (a b : Nat) : contB [a, b] 2 = (decide (128 ≤ b) && decide (b ≤ 191)) := by
  simp [contB, List.range_succ]
theorem contB_3 (a b c : Nat) : contB [a, b, c] 3 = ((decide (128 ≤ b) && decide (b ≤ 191)) && (decide (128 ≤ c) && decide (c ≤ 191))) := by
  simp [contB, List.range_succ]
theorem contB_4 (a b c d : Nat) : contB [a, b, c, d] 4 = (((decide (128 ≤ b) && decide (b ≤ 191)) && (decide (128 ≤ c) && decide (c ≤ 191))) && (decide (128 ≤ d) && decide (d ≤ 191))) := by
  simp [contB, List.range_succ, Bool.and_assoc]
theorem numZ_2 (a b : Nat) : numZ_u [a, b] = if 192 ≤ a ∧ a < 224 ∧ 128 ≤ b ∧ b ≤ 191 then 64 * ((a : Int) - 192) + ((b : Int) - 128) else -1 := by
  have e : numZ_u [a, b] = numN 192 32 2 [a, b] := rfl
  rw [e]
  unfold numN
  rw [contB_2]
  simp only [List.getElem?_cons_zero, Option.getD_some, Bool.and_eq_true, decide_eq_true_eq]
  have hv : accZ 192 [a, b] 2 = 64 * ((a : Int) - 192) + (b : Int) - 128 := rfl
  rw [hv]
  repeat' split
  all_goals omega
theorem numZ_3 (a b c : Nat) : numZ_u [a, b, c] = if 224 ≤ a ∧ a < 240 ∧ 128 ≤ b ∧ b ≤ 191 ∧ 128 ≤ c ∧ c ≤ 191 then 4096 * ((a : Int) - 224) + 64 * ((b : Int) - 128) + ((c : Int) - 128) else -1 := by
  have e : numZ_u [a, b, c] = numN 224 16 3 [a, b, c] := rfl
  rw [e]
  unfold numN
  rw [contB_3]
  simp only [List.getElem?_cons_zero, Option.getD_some, Bool.and_eq_true, decide_eq_true_eq]
  have hv : accZ 224 [a, b, c] 3 = 64 * (64 * ((a : Int) - 224) + (b : Int) - 128) + (c : Int) - 128 := rfl
  rw [hv]
  repeat' split
  all_goals omega
theorem numZ_4 (a b c d : Nat) : numZ_u [a, b, c, d] = if 240 ≤ a ∧ a < 248 ∧ 128 ≤ b ∧ b ≤ 191 ∧ 128 ≤ c ∧ c ≤ 191 ∧ 128 ≤ d ∧ d ≤ 191 then 262144 * ((a : Int) - 240) + 4096 * ((b : Int) - 128) + 64 * ((c : Int) - 128) + ((d : Int) - 128) else -1 := by
  have e : numZ_u [a, b, c, d] = numN 240 8 4 [a, b, c, d] := rfl
  rw [e]
  unfold numN
  rw [contB_4]
  simp only [List.getElem?_cons_zero, Option.getD_some, Bool.and_eq_true, decide_eq_true_eq]
  have hv : accZ 240 [a, b, c, d] 4 = 64 * (64 * (64 * ((a : Int) - 240) + (b : Int) - 128) + (c : Int) - 128) + (d : Int) - 128 := rfl
  rw [hv]
  repeat' split
  all_goals omega

/-- What a scalar's bytes say. -/
theorem num_put (r : Int) (h : scalarB r = true) : numZ_u (putL r) = r := by
  obtain ⟨h0, h1⟩ := scalarB_bd h
  obtain ⟨n, rfl⟩ := Int.eq_ofNat_of_zero_le h0
  unfold putL
  rw [if_pos h]
  by_cases a : (n : Int) < 128
  · rw [if_pos a]
    simp only [putN, numZ_1]
    omega
  rw [if_neg a]
  by_cases b : (n : Int) < 2048
  · rw [if_pos b]
    simp only [putN, numZ_2]
    rw [if_pos (by omega)]
    omega
  rw [if_neg b]
  by_cases c : (n : Int) < 65536
  · rw [if_pos c]
    simp only [putN, numZ_3]
    rw [if_pos (by omega)]
    omega
  rw [if_neg c]
  simp only [putN, numZ_4]
  rw [if_pos (by omega)]
  omega
theorem is_put (r : Int) (h : scalarB r = true) : isB (putL r) = true := by
  unfold isB
  rw [num_put r h, decide_eq_true (scalarB_bd h).1, decide_eq_true rfl]
  rfl
/-- What is a scalar's bytes. -/
theorem is_some {zs : List Nat} (h : isB zs = true) : scalarB (numZ_u zs) = true ∧ putL (numZ_u zs) = zs := by
  unfold isB at h
  simp only [Bool.and_eq_true, decide_eq_true_eq] at h
  refine ⟨?_, h.2⟩
  cases hs : scalarB (numZ_u zs) with
  | true => rfl
  | false =>
    exfalso
    have e : putL (numZ_u zs) = [] := by unfold putL; rw [hs]; rfl
    have ez : zs = [] := by rw [← h.2]; exact e
    rw [ez] at h
    exact absurd h.1 (by decide)

/-- What is read first where a scalar's bytes stand. -/
theorem first_is (zs : List Nat) (n : Nat) (hn : n ≤ zs.length) (h : isB (zs.take n) = true) : firstF zs = ((numZ_u (zs.take n)).toNat, n) := by
  obtain ⟨hs, hp⟩ := is_some h
  have := first_put _ hs (zs.drop n)
  rw [hp, List.take_append_drop] at this
  rw [this, List.length_take, Nat.min_eq_left hn]

set_option maxRecDepth 100000 in
set_option maxHeartbeats 4000000 in
/-- What the library reads is broken, or a scalar whose bytes stand there. -/
theorem dec_some (zs : List Nat) (h8 : ∀ z ∈ zs, z < 256) (h0 : zs ≠ []) : decN zs = (65533, 1) ∨ (1 ≤ (decN zs).2 ∧ (decN zs).2 ≤ 4 ∧ (decN zs).2 ≤ zs.length ∧ isB (zs.take (decN zs).2) = true) := by
  have key : ∀ (r : Nat) (k : Nat), scalarB r = true → (putL r).length = k → zs.take k = putL r → (r, k) = (65533, 1) ∨ (1 ≤ k ∧ k ≤ 4 ∧ k ≤ zs.length ∧ isB (zs.take k) = true) := fun r k hs hl ht => by
    have hb := putL_len r hs
    refine .inr ⟨by omega, by omega, ?_, by rw [ht]; exact is_put r hs⟩
    have := congrArg List.length ht
    rw [List.length_take, hl] at this
    omega
  have hput : ∀ n : Nat, (n < 55296 ∨ (57344 ≤ n ∧ n ≤ 1114111)) → scalarB (n : Int) = true := fun n hn => decide_eq_true (by omega)
  match zs, h0, h8 with
  | a :: t, _, h8 =>
    have ha := h8 a (by simp)
    unfold decN
    simp only [List.getElem?_cons_zero, Option.getD_some, List.length_cons, List.getElem?_cons_succ]
    unfold Lib.decodeN
    split
    · rename_i h1
      refine key a 1 (hput a (by omega)) ?_ ?_
      · unfold putL; rw [if_pos (hput a (by omega)), if_pos (by omega)]; rfl
      · unfold putL; rw [if_pos (hput a (by omega)), if_pos (by omega)]; simp [putN]
    rename_i h1
    split
    · rename_i h2
      match t, h8 with
      | [], _ => exact absurd h2.2.1 (by simp)
      | b :: t, h8 =>
        have hb := h8 b (by simp)
        simp only [List.getElem?_cons_zero, Option.getD_some] at h2 ⊢
        split
        · rename_i h3
          generalize hr : a % 32 * 64 + b % 64 = r
          have hr2 : 128 ≤ r ∧ r < 2048 := by omega
          have e : putL (r : Int) = [a, b] := by
            unfold putL
            rw [if_pos (hput r (by omega)), if_neg (by omega), if_pos (by omega)]
            simp only [putN]
            congr 1
            · omega
            congr 1
            omega
          exact key r 2 (hput r (by omega)) (by rw [e]; rfl) (by rw [e]; rfl)
        · exact .inl rfl
    rename_i h2
    split
    · rename_i h3
      match t, h8 with
      | [], _ => exact absurd h3.2.1.1 (by simp)
      | [_], _ => exact absurd h3.2.2.1 (by simp)
      | b :: c :: t, h8 =>
        have hb := h8 b (by simp)
        have hc := h8 c (by simp)
        simp only [List.getElem?_cons_zero, Option.getD_some, List.getElem?_cons_succ] at h3 ⊢
        split
        · rename_i h4
          generalize hr : a % 16 * 4096 + b % 64 * 64 + c % 64 = r at h4 ⊢
          have hr2 : 2048 ≤ r ∧ r < 65536 := by omega
          have hq : r / 64 / 64 = a % 16 ∧ r / 64 % 64 = b % 64 ∧ r % 64 = c % 64 := by omega
          have e : putL (r : Int) = [a, b, c] := by
            unfold putL
            rw [if_pos (hput r (by omega)), if_neg (by omega), if_neg (by omega), if_pos (by omega)]
            simp only [putN]
            congr 1
            · omega
            congr 1
            · omega
            congr 1
            omega
          exact key r 3 (hput r (by omega)) (by rw [e]; rfl) (by rw [e]; rfl)
        · exact .inl rfl
    rename_i h3
    split
    · rename_i h4
      match t, h8 with
      | [], _ => exact absurd h4.2.1.1 (by simp)
      | [_], _ => exact absurd h4.2.2.1.1 (by simp)
      | [_, _], _ => exact absurd h4.2.2.2.1 (by simp)
      | b :: c :: d :: t, h8 =>
        have hb := h8 b (by simp)
        have hc := h8 c (by simp)
        have hd := h8 d (by simp)
        simp only [List.getElem?_cons_zero, Option.getD_some, List.getElem?_cons_succ] at h4 ⊢
        split
        · rename_i h5
          generalize hr : a % 8 * 262144 + b % 64 * 4096 + c % 64 * 64 + d % 64 = r at h5 ⊢
          have hr2 : 65536 ≤ r ∧ r ≤ 1114111 := by omega
          have hq : r / 64 / 64 / 64 = a % 8 ∧ r / 64 / 64 % 64 = b % 64 ∧ r / 64 % 64 = c % 64 ∧ r % 64 = d % 64 := by omega
          have e : putL (r : Int) = [a, b, c, d] := by
            unfold putL
            rw [if_pos (hput r (by omega)), if_neg (by omega), if_neg (by omega), if_neg (by omega)]
            simp only [putN]
            congr 1
            · omega
            congr 1
            · omega
            congr 1
            · omega
            congr 1
            omega
          exact key r 4 (hput r (by omega)) (by rw [e]; rfl) (by rw [e]; rfl)
        · exact .inl rfl
    · exact .inl rfl

/-- Where no scalar's bytes stand, it is broken. -/
theorem first_not (zs : List Nat) (h8 : ∀ z ∈ zs, z < 256) (h0 : zs ≠ []) (h : ∀ n, 1 ≤ n → n ≤ 4 → n ≤ zs.length → isB (zs.take n) = false) : firstF zs = (65533, begF zs) := by
  rcases dec_some zs h8 h0 with e | ⟨h1, h2, h3, h4⟩
  · unfold firstF
    rw [e, if_pos ⟨rfl, rfl⟩]
  · rw [h _ h1 h2 h3] at h4
    cases h4

theorem full_more (zs : List Nat) (n : Nat) (h : fullB (zs.take n) = true) : fullB (zs.take (n + 1)) = true := by
  unfold fullB fullN fullX at h ⊢
  have h := of_decide_eq_true h
  refine decide_eq_true ?_
  simp only [List.length_take] at h ⊢
  have g : ∀ i, i < n → (zs.take (n + 1))[i]?.getD 0 = (zs.take n)[i]?.getD 0 := fun i hi => by
    rw [List.getElem?_take, List.getElem?_take, if_pos hi, if_pos (by omega)]
  rw [g 0 (by omega)]
  refine ⟨by omega, ?_⟩
  rcases h.2 with h2 | h2 | h2
  · exact .inl (by omega)
  · rw [g 1 (by omega)]
    exact .inr (.inl ⟨by omega, h2.2⟩)
  · rw [g 2 (by omega)]
    exact .inr (.inr ⟨by omega, h2.2⟩)
/-- The size of what is broken. -/
def sizeF (zs : List Nat) (m : Nat) : Nat := if 3 ≤ m ∧ 3 ≤ zs.length ∧ fullB (zs.take 3) = false then 3 else if 2 ≤ m ∧ 2 ≤ zs.length ∧ fullB (zs.take 2) = false then 2 else 1
theorem size_beg (zs : List Nat) : sizeF zs 3 = begF zs := by
  unfold sizeF begF
  have hm := full_more zs 2
  have h4 := full4 zs
  cases h2 : fullB (zs.take 2)
  · cases h3 : fullB (zs.take 3)
    · cases h4' : fullB (zs.take 4)
      · rw [h4'] at h4
        by_cases a : zs.length ≤ 1
        · rw [if_neg (by omega), if_neg (by omega), if_pos (.inl a)]
        by_cases b : zs.length ≤ 2
        · rw [if_neg (by omega), if_pos ⟨by omega, by omega, rfl⟩, if_neg (by simp; omega), if_pos (.inl b)]
        by_cases c : zs.length ≤ 3
        · rw [if_pos ⟨by omega, by omega, rfl⟩, if_neg (by simp; omega), if_neg (by simp; omega), if_pos (.inl c)]
        · exact absurd (h4 (by omega)) (by simp)
      · by_cases a : zs.length ≤ 1
        · rw [if_neg (by omega), if_neg (by omega), if_pos (.inl a)]
        by_cases b : zs.length ≤ 2
        · rw [if_neg (by omega), if_pos ⟨by omega, by omega, rfl⟩, if_neg (by simp; omega), if_pos (.inl b)]
        · rw [if_pos ⟨by omega, by omega, rfl⟩, if_neg (by simp; omega), if_neg (by simp; omega), if_pos (.inr rfl)]
    · by_cases a : zs.length ≤ 1
      · rw [if_neg (by simp), if_neg (by omega), if_pos (.inl a)]
      · rw [if_neg (by simp), if_pos ⟨by omega, by omega, rfl⟩, if_neg (by simp; omega), if_pos (.inr rfl)]
  · rw [hm h2]
    simp

/-- What is no beginning, or nothing: its first bytes. -/
theorem full_take (zs : List Nat) (hf : fullB zs = false) (n : Nat) : fullB (zs.take n) = false := by
  cases hq : fullB (zs.take n) with
  | false => rfl
  | true =>
    exfalso
    have : ∀ d, fullB (zs.take (n + d)) = true := fun d => by
      induction d with
      | zero => exact hq
      | succ d ih => exact full_more zs (n + d) ih
    have h := this zs.length
    rw [List.take_of_length_le (by omega), hf] at h
    cases h
/-- A beginning is read as one broken scalar. -/
theorem first_wait (zs : List Nat) (h8 : ∀ z ∈ zs, z < 256) (h0 : zs ≠ []) (hf : fullB zs = false) : firstF zs = (65533, zs.length) := by
  have hl := full_four zs h8 hf
  have hp := List.length_pos_iff.2 h0
  rw [first_not zs h8 h0]
  · congr 1
    unfold begF
    rw [full_take zs hf, full_take zs hf, full_take zs hf]
    rcases (by omega : zs.length = 1 ∨ zs.length = 2 ∨ zs.length = 3) with e | e | e <;> rw [e] <;> simp
  · intro n h1 h2 h3
    cases hq : isB (zs.take n) with
    | false => rfl
    | true =>
      exfalso
      obtain ⟨hs, hp⟩ := is_some hq
      have := full_put _ hs (zs.drop n)
      rw [hp, List.take_append_drop, hf] at this
      cases this

theorem rdL_nil : rdL [] = [] := rfl
/-- What is read, scalar by scalar. -/
theorem all_step (zs : List Nat) (h8 : ∀ z ∈ zs, z < 256) (h0 : zs ≠ []) : allL zs = (firstF zs).1 :: allL (zs.drop (firstF zs).2) := by
  cases hf : fullB zs with
  | true =>
    have hb := firstF_bd zs (fullB_pos hf)
    unfold allL
    rw [rdL_yes zs hf]
    have es : sumB (firstF zs :: rdL (zs.drop (firstF zs).2)) = (firstF zs).2 + sumB (rdL (zs.drop (firstF zs).2)) := by simp [sumB]
    rw [es, List.map_cons, List.cons_append, List.length_drop]
    congr 2
    by_cases hh : sumB (rdL (zs.drop (firstF zs).2)) < zs.length - (firstF zs).2
    · rw [if_pos hh, if_pos (by omega)]
    · rw [if_neg hh, if_neg (by omega)]
  | false =>
    have hp := List.length_pos_iff.2 h0
    rw [first_wait zs h8 h0 hf]
    dsimp only
    rw [List.drop_length]
    unfold allL
    rw [rdL_no zs hf, rdL_nil]
    simp [sumB, hp]
theorem allL_nil : allL [] = [] := rfl

/-- How many bytes wait. -/
def waitL (zs : List Nat) : Nat := zs.length - sumB (rdL zs)
theorem wait_yes (zs : List Nat) (hf : fullB zs = true) : waitL zs = waitL (zs.drop (firstF zs).2) := by
  unfold waitL
  rw [rdL_yes zs hf]
  have es : sumB (firstF zs :: rdL (zs.drop (firstF zs).2)) = (firstF zs).2 + sumB (rdL (zs.drop (firstF zs).2)) := by simp [sumB]
  rw [es, List.length_drop]
  omega
theorem wait_no (zs : List Nat) (hf : fullB zs = false) : waitL zs = zs.length := by
  unfold waitL
  rw [rdL_no zs hf]
  simp [sumB]

theorem beg_take (zs : List Nat) (m : Nat) (hm : begF zs ≤ m) : begF (zs.take m) = begF zs := by
  have h1 : 1 ≤ begF zs := by unfold begF; (repeat' split) <;> omega
  rw [← begF_is (zs.take m) (begF zs) h1]
  · intro j hj1 hj2
    rw [List.take_take, Nat.min_eq_left (by omega), List.length_take]
    have : ∀ j, 1 ≤ j → j < begF zs → j < zs.length ∧ fullB (zs.take (j + 1)) = false := fun j hj1 hj2 => by
      unfold begF at hj2
      split at hj2
      · omega
      rename_i a
      have a1 : ¬ zs.length ≤ 1 := fun h => a (.inl h)
      have a2 : fullB (zs.take 2) = false := by simpa using fun h => a (.inr h)
      split at hj2
      · obtain rfl : j = 1 := by omega
        exact ⟨by omega, a2⟩
      rename_i b
      have b1 : ¬ zs.length ≤ 2 := fun h => b (.inl h)
      have b2 : fullB (zs.take 3) = false := by simpa using fun h => b (.inr h)
      split at hj2
      · rcases (by omega : j = 1 ∨ j = 2) with rfl | rfl
        · exact ⟨by omega, a2⟩
        · exact ⟨by omega, b2⟩
      rename_i c
      have c1 : ¬ zs.length ≤ 3 := fun h => c (.inl h)
      have c2 : fullB (zs.take 4) = false := by simpa using fun h => c (.inr h)
      rcases (by omega : j = 1 ∨ j = 2 ∨ j = 3) with rfl | rfl | rfl
      · exact ⟨by omega, a2⟩
      · exact ⟨by omega, b2⟩
      · exact ⟨by omega, c2⟩
    have := this j hj1 hj2
    exact ⟨by omega, this.2⟩
  · rw [List.length_take]
    rcases Nat.lt_or_ge (begF zs) m with h | h
    · rw [List.take_take, Nat.min_eq_left (show begF zs + 1 ≤ m by omega)]
      have : zs.length ≤ begF zs ∨ fullB (zs.take (begF zs + 1)) = true := by
        unfold begF
        split
        · rename_i a; exact a
        split
        · rename_i a; exact a
        split
        · rename_i a; exact a
        rename_i c
        exact absurd (full4 zs (Nat.lt_of_not_le fun h => c (.inl h))) fun h => c (.inr h)
      rcases this with h' | h'
      · exact .inl (by omega)
      · exact .inr h'
    · exact .inl (by omega)
/-- What is read first hangs on no byte behind it. -/
theorem first_take (zs : List Nat) (h8 : ∀ z ∈ zs, z < 256) (h0 : zs ≠ []) (m : Nat) (hm : (firstF zs).2 ≤ m) : firstF (zs.take m) = firstF zs := by
  rcases Classical.em (∃ n, 1 ≤ n ∧ n ≤ 4 ∧ n ≤ zs.length ∧ isB (zs.take n) = true) with ⟨n, h1, h2, h3, h4⟩ | hno
  · have e := first_is zs n h3 h4
    rw [e] at hm ⊢
    have := first_is (zs.take m) n (by rw [List.length_take]; dsimp only at hm; omega) (by rw [List.take_take, Nat.min_eq_left hm]; exact h4)
    rw [this, List.take_take, Nat.min_eq_left hm]
  · have hn : ∀ n, 1 ≤ n → n ≤ 4 → n ≤ zs.length → isB (zs.take n) = false := fun n h1 h2 h3 => by
      cases hq : isB (zs.take n) with
      | false => rfl
      | true => exact absurd ⟨n, h1, h2, h3, hq⟩ hno
    have e := first_not zs h8 h0 hn
    rw [e] at hm ⊢
    dsimp only at hm
    have hb1 : 1 ≤ begF zs := by unfold begF; (repeat' split) <;> omega
    have hz := List.length_pos_iff.2 h0
    rw [first_not (zs.take m) (fun z hz => h8 z (List.mem_of_mem_take hz)) (by
      intro h
      have := congrArg List.length h
      rw [List.length_take, List.length_nil] at this
      omega), beg_take zs m hm]
    intro n h1 h2 h3
    rw [List.length_take] at h3
    rw [List.take_take, Nat.min_eq_left (by omega)]
    exact hn n h1 h2 (by omega)
/-- What is settled is what all of it is read as. -/
theorem all_settled : ∀ (n : Nat) (zs : List Nat), zs.length ≤ n → (∀ z ∈ zs, z < 256) → allL (zs.take (sumB (rdL zs))) = (rdL zs).map (·.1)
  | 0, zs, hn, _ => by
    have : zs = [] := List.length_eq_zero_iff.1 (by omega)
    subst this
    rfl
  | n + 1, zs, hn, h8 => by
    cases hf : fullB zs with
    | false => rw [rdL_no zs hf]; rfl
    | true =>
      have hp := fullB_pos hf
      have hb := firstF_bd zs hp
      have hz : zs ≠ [] := List.length_pos_iff.1 hp
      rw [rdL_yes zs hf]
      have es : sumB (firstF zs :: rdL (zs.drop (firstF zs).2)) = (firstF zs).2 + sumB (rdL (zs.drop (firstF zs).2)) := by simp [sumB]
      rw [es]
      have ih := all_settled n (zs.drop (firstF zs).2) (by rw [List.length_drop]; omega) (fun z hz => h8 z (List.mem_of_mem_drop hz))
      have ht := first_take zs h8 hz ((firstF zs).2 + sumB (rdL (zs.drop (firstF zs).2))) (by omega)
      rw [all_step _ (fun z hz => h8 z (List.mem_of_mem_take hz)) (by
        intro h
        have := congrArg List.length h
        rw [List.length_take, List.length_nil] at this
        omega), ht, List.map_cons, ← ih, List.drop_take, Nat.add_sub_cancel_left]

end Go.Proofs.YtmmkcfjncpcabaaDoor

namespace Go.Proofs.YtmmkcfjncpcabaaDoor
open Go.RowKit

theorem first_snoc (ps : List Nat) (x : Nat) (h8 : ∀ z ∈ ps ++ [x], z < 256) (hf : fullB ps = false) (hx : fullB (ps ++ [x]) = true) :
    (firstF (ps ++ [x])).2 = ps.length + 1 ∨ (ps ≠ [] ∧ firstF (ps ++ [x]) = (65533, ps.length)) := by
  have hl : (ps ++ [x]).length = ps.length + 1 := by simp
  have tk : ∀ j, j ≤ ps.length → (ps ++ [x]).take j = ps.take j := fun j hj => by rw [List.take_append_of_le_length hj]
  rcases Classical.em (∃ n, 1 ≤ n ∧ n ≤ 4 ∧ n ≤ (ps ++ [x]).length ∧ isB ((ps ++ [x]).take n) = true) with ⟨n, h1, h2, h3, h4⟩ | hno
  · left
    rw [first_is _ n h3 h4]
    show n = ps.length + 1
    rcases Nat.lt_or_ge ps.length n with h5 | h5
    · omega
    · exfalso
      rw [tk n h5] at h4
      obtain ⟨h6, h7⟩ := is_some h4
      have h8 := full_put _ h6 []
      rw [List.append_nil, h7, full_take ps hf n] at h8
      cases h8
  · have hno2 : ∀ n, 1 ≤ n → n ≤ 4 → n ≤ (ps ++ [x]).length → isB ((ps ++ [x]).take n) = false := fun n h1 h2 h3 => by
      cases hq : isB ((ps ++ [x]).take n) with
      | false => rfl
      | true => exact absurd ⟨n, h1, h2, h3, hq⟩ hno
    rw [first_not _ h8 (by simp) hno2]
    by_cases hp : ps = []
    · subst hp
      left
      have := begF_bd ([] ++ [x])
      simp at this ⊢
      omega
    · right
      refine ⟨hp, ?_⟩
      have hpos := List.length_pos_iff.2 hp
      rw [← begF_is (ps ++ [x]) ps.length (by omega) (fun j h1 h2 => ⟨by omega, by rw [tk _ (by omega)]; exact full_take ps hf _⟩) (.inr (by rw [← hl, List.take_length]; exact hx))]
/-- A parser at rest, where some bytes wait. -/
def RP (m : Nat) (ps : List Nat) : PM := ⟨0, [], [], false, 0, [], false, 0, m, ps⟩
theorem rp_new (m : Nat) : newP m = RP m [] := rfl
theorem rest_wait (m : Nat) (ps : List Nat) (x : Nat) (h : fullB (ps ++ [x]) = false) : restP (RP m ps) x = (RP m (ps ++ [x]), []) := by
  unfold restP read1 wait1
  show scalP { RP m ps with ps := (ps ++ [x]).drop (sumB (rdL (ps ++ [x]))) } ((rdL (ps ++ [x])).map (·.1)) = _
  rw [rdL_no _ h]
  rfl
theorem rest_one (m : Nat) (ps : List Nat) (x : Nat) (h : fullB (ps ++ [x]) = true) (hn : (firstF (ps ++ [x])).2 = ps.length + 1) : restP (RP m ps) x = scal1 (RP m []) (firstF (ps ++ [x])).1 := by
  unfold restP read1 wait1
  show scalP { RP m ps with ps := (ps ++ [x]).drop (sumB (rdL (ps ++ [x]))) } ((rdL (ps ++ [x])).map (·.1)) = _
  have hd : (ps ++ [x]).drop (ps.length + 1) = [] := List.drop_of_length_le (by simp)
  rw [rdL_yes _ h, hn, hd]
  have e1 : rdL [] = [] := rfl
  rw [e1]
  have e2 : sumB [firstF (ps ++ [x])] = ps.length + 1 := by simp [sumB, hn]
  rw [e2, hd]
  simp only [List.map_cons, List.map_nil, scalP, List.append_nil]
  rfl
theorem rest_two (m : Nat) (ps : List Nat) (x : Nat) (h : fullB (ps ++ [x]) = true) (hn : firstF (ps ++ [x]) = (65533, ps.length)) : restP (RP m ps) x = ((restP (RP m []) x).1, printP 65533 :: (restP (RP m []) x).2) := by
  unfold restP read1 wait1
  show scalP { RP m ps with ps := (ps ++ [x]).drop (sumB (rdL (ps ++ [x]))) } ((rdL (ps ++ [x])).map (·.1)) = ((scalP { RP m [] with ps := ([] ++ [x]).drop (sumB (rdL ([] ++ [x]))) } ((rdL ([] ++ [x])).map (·.1))).1, _ :: (scalP { RP m [] with ps := ([] ++ [x]).drop (sumB (rdL ([] ++ [x]))) } ((rdL ([] ++ [x])).map (·.1))).2)
  have hd : (ps ++ [x]).drop ps.length = [x] := List.drop_left
  rw [rdL_yes _ h, hn, hd, List.nil_append]
  have e2 : sumB ((65533, ps.length) :: rdL [x]) = ps.length + sumB (rdL [x]) := by simp [sumB]
  rw [e2, ← List.drop_drop, hd, List.map_cons]
  rfl
theorem at_rp (s : PM) (h : s.ps = []) : s.at 0 = RP s.most [] := by
  unfold PM.at PM.fresh RP
  rw [h]
/-- At rest bytes may wait; elsewhere none do. -/
def QS (s : PM) : Prop := (∃ ps, s = RP s.most ps ∧ fullB ps = false ∧ ∀ z ∈ ps, z < 256) ∨ (¬ s.state = 0 ∧ s.ps = [])
theorem QS.rp (m : Nat) : QS (RP m []) := .inl ⟨[], rfl, rfl, fun z hz => (by cases hz)⟩
theorem QS.at {s : PM} (h : s.ps = []) (st : Int) : QS (s.at st) := by
  by_cases h0 : st = 0
  · subst h0
    rw [at_rp s h]
    exact QS.rp _
  · exact .inr ⟨h0, h⟩
theorem QS.endEsc {s : PM} (h : s.ps = []) (x : Int) : QS (endEscP s x).1 := by
  unfold endEscP
  repeat' split
  all_goals exact QS.at h _
theorem QS.scal1 (m : Nat) (r : Nat) : QS (scal1 (RP m []) r).1 := by
  unfold Go.Proofs.YtmmkcfjncpcabaaDoor.scal1
  repeat' split
  all_goals first | exact QS.endEsc rfl _ | exact QS.rp m
theorem QS.rest0 (m : Nat) (x : Nat) (hx : x < 256) : QS (restP (RP m []) x).1 := by
  cases hf : fullB ([] ++ [x]) with
  | false =>
    rw [rest_wait m [] x hf]
    exact .inl ⟨_, rfl, hf, fun z hz => by simp at hz; omega⟩
  | true =>
    rcases first_snoc [] x (fun z hz => by simp at hz; omega) rfl hf with h | h
    · rw [rest_one m [] x hf h]
      exact QS.scal1 m _
    · exact absurd rfl h.1
theorem QS.rest (m : Nat) (ps : List Nat) (x : Nat) (hx : x < 256) (h : fullB ps = false) (h8 : ∀ z ∈ ps, z < 256) : QS (restP (RP m ps) x).1 := by
  have h9 : ∀ z ∈ ps ++ [x], z < 256 := fun z hz => by
    rcases List.mem_append.1 hz with hz | hz
    · exact h8 z hz
    · simp at hz; omega
  cases hf : fullB (ps ++ [x]) with
  | false =>
    rw [rest_wait m ps x hf]
    exact .inl ⟨_, rfl, hf, h9⟩
  | true =>
    rcases first_snoc ps x h9 h hf with h1 | h1
    · rw [rest_one m ps x hf h1]
      exact QS.scal1 m _
    · rw [rest_two m ps x hf h1.2]
      exact QS.rest0 m x hx
theorem QS.take {s : PM} (h : QS s) (hq : GQ s) (x : UInt8) : QS (takeP s x).1 := by
  have hx := x.toNat_lt
  have he : (endP s).1.ps = [] := (scalP_ps _ _).1
  rcases h with ⟨ps, hs, hf, h8⟩ | ⟨h0, hp⟩
  · have h0 : s.state = 0 := by rw [hs]; rfl
    unfold takeP
    rw [h0]
    by_cases h1 : x.toNat = 24 ∨ x.toNat = 26
    · rw [if_pos h1]
      exact QS.at he 0
    · rw [if_neg h1]
      by_cases h2 : x.toNat = 27
      · rw [if_pos h2]
        exact QS.at he 1
      · rw [if_neg h2, if_neg (by omega), if_neg (by omega), if_neg (by omega), if_neg (by omega), if_neg (by omega), hs]
        exact QS.rest s.most ps _ hx hf h8
  · have hb : QS (breakP s x.toNat).1 := by
      unfold breakP
      rw [at_rp s hp]
      exact QS.rest0 _ _ hx
    have h1 : (betweenP s x).ps = [] ∧ (betweenP s x).state = s.state := by
      unfold betweenP
      repeat' split
      all_goals exact ⟨hp, rfl⟩
    have h2 : (parP s x).ps = [] ∧ (parP s x).state = s.state := by
      unfold parP
      repeat' split
      all_goals first | exact h1 | exact ⟨hp, rfl⟩
    have h3 : (payP s x).ps = [] ∧ (payP s x).state = s.state := by
      unfold payP
      repeat' split
      all_goals exact ⟨hp, rfl⟩
    have q1 : QS (betweenP s x) := .inr ⟨by rw [h1.2]; exact h0, h1.1⟩
    have q2 : QS (parP s x) := .inr ⟨by rw [h2.2]; exact h0, h2.1⟩
    have q3 : QS (payP s x) := .inr ⟨by rw [h3.2]; exact h0, h3.1⟩
    have q4 : QS (endEscP s x.toNat).1 := QS.endEsc hp _
    have q5 : QS (endSeqP s x.toNat).1 := by
      unfold endSeqP
      repeat' split
      all_goals exact QS.at hp _
    have q6 : QS s := .inr ⟨h0, hp⟩
    unfold takeP escTakeP seqTakeP devTakeP cmdTakeP
    by_cases g0 : x.toNat = 24 ∨ x.toNat = 26
    · rw [if_pos g0]
      exact QS.at he 0
    rw [if_neg g0]
    by_cases g1 : x.toNat = 27
    · rw [if_pos g1]
      exact QS.at he 1
    rw [if_neg g1]
    by_cases g5 : s.state = 5
    · rw [g5]
      exact q6
    repeat' split
    all_goals first | exact q6 | exact q1 | exact q2 | exact q3 | exact q4 | exact q5 | exact hb | exact QS.at hp 0 | exact .inr ⟨h0, hp⟩ | (exfalso; have := hq.st; omega)
theorem QS.takes : ∀ (xs : List UInt8) {s : PM}, QS s → GQ s → QS (takesP s xs).1
  | [], _, h, _ => h
  | x :: xs, _, h, hq => QS.takes xs (h.take hq x) (hq.take x)
/-- No more is held than a payload has, and 258. -/
theorem held_le {s : PM} (h : QS s) (hh : GH s) : heldP s ≤ s.most + 258 := by
  unfold heldP
  rcases h with ⟨ps, hs, hf, h8⟩ | ⟨_, hp⟩
  · have hl := full_four ps h8 hf
    rw [hs]
    simp only [RP, List.length_nil]
    omega
  · have h1 := hh.gq.gp.hlen
    have h2 := hh.inter
    have h3 := hh.pay
    rw [hp, List.length_nil]
    omega

end Go.Proofs.YtmmkcfjncpcabaaDoor

namespace Go.Proofs.YtmmkcfjncpcabaaDoor
open Go.RowKit

/-- One parser at D, above all that came in. -/
structure C1 (w0 W : World) (D : Nat) (s : PM) : Prop where
  mi : ∃ a, MI W D s [] a
  gt : GT W D
  b : Below w0.heap.size w0 W
  l : w0.heap.size ≤ D
  gh : GH s
  qs : QS s
theorem C1.lt {w0 W : World} {D : Nat} {s : PM} (h : C1 w0 W D s) : D < W.heap.size := h.mi.elim fun _ hm => lt_of_block hm.blk
theorem C1.past {w0 W W' : World} {D : Nat} {s : PM} (h : C1 w0 W D s) (hb : Below W.heap.size W W') : C1 w0 W' D s :=
  ⟨h.mi.imp fun _ hm => (hm.past hb).1, h.gt.past h.lt hb, h.b.trans (hb.mono h.b.size), h.l, h.gh, h.qs⟩
theorem C1.new {w0 w1 w2 : World} {m : Nat} (hG : GW w0) (h01 : Below w0.heap.size w0 w1) (h1 : MI w2 w1.heap.size (newP m) [] (newA m)) (hb1 : Below w1.heap.size w1 w2) (hm : m ≤ 65536) : C1 w0 w2 w1.heap.size (newP m) := by
  have h02 : Below w0.heap.size w0 w2 := h01.trans (hb1.mono h01.size)
  have hz : w0.heap.size ≤ w1.heap.size := h01.size
  exact ⟨⟨_, h1⟩, ⟨(hG.below h02).ut, Nat.lt_of_lt_of_le hG.ut.2.1 hz, Nat.lt_of_lt_of_le hG.ut.2.2 hz, (hG.below h02).ml, hG.ml.elim fun _ hm => Nat.lt_of_lt_of_le (block_lt_of_cell hm) hz⟩, h02, hz, GH.new hm, QS.rp m⟩
/-- A call on it. -/
theorem C1.call {w0 W : World} {D : Nat} {s s' : PM} {es : List PE} {f : FuncId} {args : Array Value} (h : C1 w0 W D s) (hh : GH s') (hq : QS s')
    (hc : ∀ a, MI W D s [] a → Calls Tryd.prog f args W fun e w' => ∃ v, e = .returned v ∧ AP D s' es a W v w') :
    Calls Tryd.prog f args W fun e w' => ∃ A c, e = .returned (.slice A es.length c) ∧ C1 w0 w' D s' ∧ EvS w' A es ∧ (∃ cs, w'.ownsRow (D + 1) 41 8 (.slice A es.length c) es.length cs ∧ EvL w' es cs) := by
  obtain ⟨a, hm⟩ := h.mi
  refine (hc a hm).mono fun e w' ⟨v, he, cs, a', A, c, hv, hm', hf, ho, hl, hn, hg⟩ => ?_
  subst hv
  have hb := hf.below hm
  exact ⟨A, c, he, ⟨⟨a', hm'⟩, h.gt.below h.lt hb, h.b.trans (hb.mono h.l), h.l, hh, hq⟩, EvS.of_own ho rfl hl, cs, ho, hl⟩
theorem step_c1 {w0 W : World} {D : Nat} {s : PM} (h : C1 w0 W D s) (x : UInt8) : Calls Tryd.prog 17 #[.pointer (some ⟨D, 0, none⟩), .int .u8 x.toNat] W fun e w' => ∃ A c, e = .returned (.slice A (takeP s x).2.length c) ∧ C1 w0 w' D (takeP s x).1 ∧ EvS w' A (takeP s x).2 ∧ (∃ cs, w'.ownsRow (D + 1) 41 8 (.slice A (takeP s x).2.length c) (takeP s x).2.length cs ∧ EvL w' (takeP s x).2 cs) :=
  h.call (h.gh.take x) (h.qs.take h.gh.gq x) fun _ ha => step1_mi ha h.gt h.gh.gq x
theorem held_c1 {w0 W : World} {D : Nat} {s : PM} (h : C1 w0 W D s) : Calls Tryd.prog 16 #[.pointer (some ⟨D, 0, none⟩)] W (fun e w' => e = .returned (.int .i64 (heldP s : Nat)) ∧ C1 w0 w' D s) := by
  obtain ⟨_, hm⟩ := h.mi
  exact (held_gh hm h.gh).mono fun _ _ hp => ⟨hp.1, h.past hp.2⟩
theorem state_c1 {w0 W : World} {D : Nat} {s : PM} (h : C1 w0 W D s) : Calls Tryd.prog 15 #[.pointer (some ⟨D, 0, none⟩)] W (fun e w' => e = .returned (.int .i64 s.state) ∧ C1 w0 w' D s) := by
  obtain ⟨_, hm⟩ := h.mi
  exact (state_mi hm).mono fun _ _ hp => ⟨hp.1, h.past hp.2⟩
set_option maxRecDepth 100000 in
set_option maxHeartbeats 8000000 in
theorem parseHolds_main (A : Option Addr) (zs : List Nat) (n c m h : Nat) (hn : n = zs.length) (_ : n ≤ c) (hm : m < 65536) (hh : h < 256) (hn2 : n ≤ 60) (w : World) (hG : GW w) (hR : BS w w.heap.size A zs) :
    Calls Tryd.prog 6 #[.slice A n c, .int .u16 m, .int .u8 h] w fun e w' => e = .returned (.bool true) ∧ Below w.heap.size w w' := by
  have HA : Hid (∀ W, Below w.heap.size w W → Calls Tryd.prog 10 #[] W fun e w' => e = .returned (.bool true) ∧ Below w.heap.size w w') := Lib.hid fun W hW => (awake_any W (hG.below hW)).mono fun _ _ hp => ⟨hp.1, hW.trans (hp.2.mono hW.size)⟩
  have HM : Hid (∀ W (z : Int), z = (h : Int) → Below w.heap.size w W → Calls Tryd.prog 11 #[.int .u8 z] W fun e w' => e = .returned (.pointer (some ⟨W.heap.size, 0, none⟩)) ∧ C1 w w' W.heap.size (newP (h + 1))) := Lib.hid fun W z hz hW => by rw [hz]; exact (made_any h (by omega) W).mono fun _ _ hp => ⟨hp.1, C1.new hG hW hp.2.1 hp.2.2 (by omega)⟩
  have HS : Hid (∀ W D s, s.most = h + 1 → C1 w W D s → ∀ x : Nat, x < 256 → Calls Tryd.prog 17 #[.pointer (some ⟨D, 0, none⟩), .int .u8 x] W fun e w' => ∃ v s', e = .returned v ∧ s'.most = h + 1 ∧ C1 w w' D s' ∧ heldP s' ≤ h + 259) := Lib.hid fun W D s hs hcs x hx => by
    have e : (x : Int) = ((UInt8.ofNat x).toNat : Nat) := by rw [UInt8.toNat_ofNat']; omega
    rw [e]
    refine (step_c1 hcs (UInt8.ofNat x)).mono fun e w' ⟨A, c, h1, h2, _⟩ => ⟨_, _, h1, (takeP_most _ _).trans hs, h2, ?_⟩
    have := held_le h2.qs h2.gh
    rw [takeP_most, hs] at this
    omega
  have HH : Hid (∀ W D s, C1 w W D s → Calls Tryd.prog 16 #[.pointer (some ⟨D, 0, none⟩)] W (fun e w' => e = .returned (.int .i64 (heldP s : Nat)) ∧ C1 w w' D s)) := Lib.hid fun W D s hcs => held_c1 hcs
  have n1 : ¬ (60 : Int) < n := by omega
  have HL := Lib.hid hn
  have HR := Lib.hid hR
  have HMO : Hid ((newP (h + 1)).most = h + 1) := Lib.hid rfl
  clear hn hR hG
  go_enter Tryd.func6, Tryd.ntmps6
  go_wp2_with (first
    | (go_at_call 10; (with_reducible refine (HA.out _ (Below.refl _ _)).mono ?_); rintro e w1 ⟨rfl, hb1⟩; have HB1 := Lib.hid hb1; clear hb1)
    | (go_at_call 11; (with_reducible refine (HM.out w1 _ rfl HB1.out).mono ?_); rintro e w2 ⟨rfl, hm2'⟩; have HC2 := Lib.hid hm2'; clear hm2'))
  go_loopw [9] (fun i wr => ∃ (k0 : Nat) (s : PM), k0 ≤ 1 + m % 40 ∧ i = .int .i64 k0 ∧ Hid (s.most = h + 1) ∧ Hid (C1 w wr w1.heap.size s)) (fun i _ => 1 + m % 40 - (intOf i).toNat)
  case atStart => exact ⟨0, _, Nat.zero_le _, rfl, HMO, HC2⟩
  case round =>
    obtain ⟨k0, s, hk0, rfl, HMs, HCs⟩ := hrel
    by_cases hlt : k0 < 1 + m % 40
    · have hki : (k0 : Int) < 1 + m % 40 := by omega
      generalize wr = wq at *
      go_wp2
      go_loopw [10] (fun i wr => ∃ (k1 : Nat) (s : PM), k1 ≤ n ∧ i = .int .i64 k1 ∧ Hid (s.most = h + 1) ∧ Hid (C1 w wr w1.heap.size s)) (fun i _ => n - (intOf i).toNat)
      case atStart => exact ⟨0, _, Nat.zero_le _, rfl, HMs, HCs⟩
      case round =>
        obtain ⟨k1, s1, hk1, rfl, HM1, HC1⟩ := hrel
        by_cases hlt1 : k1 < n
        · obtain ⟨b, off, rfl, hbl, hcl⟩ := HR.out.2 (by rintro rfl; have := HL.out; simp at this; omega)
          have hck := (HC1.out.b.cell (p := ⟨b, off + k1, none⟩) hbl).trans (hcl k1 (by rw [← HL.out]; exact hlt1))
          have hki1 : (k1 : Int) < n := by omega
          have hz8 : zs[k1]?.getD 0 < 256 := by
            rw [List.getElem?_eq_getElem (by rw [← HL.out]; exact hlt1)]
            exact HR.out.1 _ (List.getElem_mem _)
          clear hcl hbl
          generalize zs[k1]?.getD 0 = z at *
          go_wp2_with (first
            | (go_at_call 17; (with_reducible refine (HS.out _ _ _ HM1.out HC1.out _ hz8).mono ?_); rintro e w4 ⟨v4, s4, rfl, hm4, hc4, hl4⟩; have HM4 := Lib.hid hm4; have HC4 := Lib.hid hc4; have hl4i : ((heldP s4 : Nat) : Int) ≤ h + 259 := (by omega); have hl40 : (0 : Int) ≤ (heldP s4 : Nat) := (by omega); clear hm4 hc4)
            | (go_at_call 16; (with_reducible refine (HH.out _ _ _ HC4.out).mono ?_); rintro e w5 ⟨rfl, hc5⟩; have HC5 := Lib.hid hc5; clear hc5)
            | (go_at_call 16; (with_reducible refine (HH.out _ _ _ HC5.out).mono ?_); rintro e w6 ⟨rfl, hc6⟩; have HC6 := Lib.hid hc6; clear hc6))
          exact ⟨⟨k1 + 1, s4, hlt1, by go_num, HM4, HC6⟩, by simp [intOf]; omega⟩
        · have hk1n : ¬ (k1 : Int) < n := by omega
          go_wp2
          exact ⟨⟨k0 + 1, s1, hlt, by go_num, HM1, HC1⟩, by simp [intOf]; omega⟩
    · have hki : ¬ (k0 : Int) < 1 + m % 40 := by omega
      go_wp2
      go_ret
      exact ⟨rfl, HCs.out.b⟩
set_option maxRecDepth 100000 in
set_option maxHeartbeats 8000000 in
theorem parseHolds_law (A : Option Addr) (zs : List Nat) (n c m h : Nat) (hn : n = zs.length) (hc : n ≤ c) (hm : m < 65536) (hh : h < 256) (w : World) (hG : GW w) (hR : BS w w.heap.size A zs) :
    Calls Tryd.prog 6 #[.slice A n c, .int .u16 m, .int .u8 h] w fun e w' => e = .returned (.bool true) ∧ Below w.heap.size w w' := by
  by_cases h1 : n ≤ 60
  · exact parseHolds_main A zs n c m h hn hc hm hh h1 w hG hR
  · have HA := Lib.hid (awake_any w hG)
    have n1 : (60 : Int) < n := by omega
    clear hn hm hR hG
    go_enter Tryd.func6, Tryd.ntmps6
    go_wp2_with (go_at_call 10; (with_reducible refine HA.out.mono ?_); rintro e w1 ⟨rfl, hb1⟩; have HB1 := Lib.hid hb1; clear hb1)
    go_ret
    exact ⟨rfl, HB1.out⟩
theorem parseHolds_lawI (A : Option Addr) (zs : List Nat) (n c : Nat) (m h : Int) (hn : n = zs.length) (hc : n ≤ c) (m0 : 0 ≤ m) (hm : m ≤ 65535) (h0 : 0 ≤ h) (hh : h ≤ 255) (w : World) (hG : GW w) (hR : BS w w.heap.size A zs) :
    Calls Tryd.prog 6 #[.slice A n c, .int .u16 m, .int .u8 h] w fun e w' => e = .returned (.bool true) ∧ Below w.heap.size w w' := by
  obtain ⟨k, rfl⟩ : ∃ k : Nat, h = k := ⟨h.toNat, by omega⟩
  obtain ⟨j, rfl⟩ : ∃ j : Nat, m = j := ⟨m.toNat, by omega⟩
  exact parseHolds_law A zs n c j k hn hc (by omega) (by omega) w hG hR

end Go.Proofs.YtmmkcfjncpcabaaDoor
