/- The walks of the document's Same and All. Written by mkr1.py. -/
import Derived.Test.YtjifekdjkjnefaaF9
namespace Go.Proofs.Ytjifekdjkjnefaa
open Go.RowKit

def meanL (b : Bool) : UInt8 → UInt8 := if b then lowL else idL
theorem low_in {c : UInt8} {n : Nat} (hn : n = c.toNat) (h1 : 65 ≤ n) (h2 : n ≤ 90) : (lowL c).toNat = n + 32 := by
  unfold lowL
  rw [if_pos (by simp [UInt8.le_iff_toNat_le]; omega), UInt8.toNat_add, hn]
  show (c.toNat + 32) % 256 = _
  omega
theorem low_out {c : UInt8} {n : Nat} (hn : n = c.toNat) (h : n < 65 ∨ 90 < n) : (lowL c).toNat = n := by
  unfold lowL
  rw [if_neg (by simp [UInt8.le_iff_toNat_le]; omega), hn]
theorem mt_eq {m : UInt8 → UInt8} {T N : List UInt8} {p i x y : Nat} (hx : (m (T[p]?.getD 0)).toNat = x) (hy : (m (N[i]?.getD 0)).toNat = y) : (x = y ↔ mt m T p = mt m N i) := by
  unfold mt
  rw [← hx, ← hy]
  exact ⟨fun e => UInt8.toNat.inj e, fun e => by rw [e]⟩
theorem stands_no {m : UInt8 → UInt8} {T N : List UInt8} {p i : Nat} (hi : i < N.length) (h : mt m T (p + i) ≠ mt m N i) : decide (Stands m T N p) = false := decide_eq_false fun hs => h (hs.2 i hi)
set_option maxRecDepth 100000 in
set_option maxHeartbeats 4000000 in
theorem refSame_any (T N : List UInt8) (hT : T.length ≤ 1000000000) (hN : N.length ≤ 1000000000) (p : Nat) (hp : p + N.length ≤ T.length) (b : Bool) (w : World) :
    Calls Try.prog 35 #[.string (bsB T), .string (bsB N), .int .i64 p, .bool b] w fun e w' => e = .returned (.bool (decide (Stands (meanL b) T N p))) ∧ Below w.heap.size w w' := by
  have hsT : ((bsB T).size : Int) = T.length := by rw [bsB_size]
  have hsN : ((bsB N).size : Int) = N.length := by rw [bsB_size]
  have HP := Lib.hid hp
  have HIT : Hid (∀ k x, k < T.length → x = (T[k]?.getD 0).toNat → ∀ W, (Instr.index 9 (.string (bsB T)) (.int .i64 k)).run Try.prog W = .ok (.int .u8 x) W) := Lib.hid (idx_as T)
  have HIN : Hid (∀ k x, k < N.length → x = (N[k]?.getD 0).toNat → ∀ W, (Instr.index 9 (.string (bsB N)) (.int .i64 k)).run Try.prog W = .ok (.int .u8 x) W) := Lib.hid (idx_as N)
  have HALL : Hid ((∀ j, j < N.length → mt (meanL b) T (p + j) = mt (meanL b) N j) → decide (Stands (meanL b) T N p) = true) := Lib.hid fun h => decide_eq_true ⟨hp, h⟩
  have HNO : Hid (∀ i, i < N.length → mt (meanL b) T (p + i) ≠ mt (meanL b) N i → decide (Stands (meanL b) T N p) = false) := Lib.hid fun i hi h => stands_no hi h
  generalize decide (Stands (meanL b) T N p) = rb at *
  generalize hbT : bsB T = sT at *
  generalize hbN : bsB N = sN at *
  generalize hlT : T.length = tl at *
  generalize hlN : N.length = nl at *
  clear hlT hlN hbT hbN hp
  go_enter Try.func35, Try.ntmps35
  go_wp2
  go_loopw [9] (fun q wr => ∃ i : Nat, q = .int .i64 i ∧ i ≤ nl ∧ Hid (∀ j, j < i → mt (meanL b) T (p + j) = mt (meanL b) N j) ∧ Hid (Below w.heap.size w wr)) (fun q _ => nl - (intOf q).toNat)
  case atStart => exact ⟨0, by go_num, Nat.zero_le _, Lib.hid fun j hj => absurd hj (Nat.not_lt_zero j), Lib.hid (Below.refl _ _)⟩
  case round =>
    obtain ⟨i, rfl, hi, HK, HB⟩ := hrel
    by_cases hlt : i < nl
    · have hlti : (i : Int) < nl := by omega
      have hw : IntKind.i64.wrap ((p : Int) + i) = ((p + i : Nat) : Int) := by rw [IntKind.wrap_i64]; have := HP.out; omega
      obtain ⟨x, hx⟩ : ∃ x, x = (T[p + i]?.getD 0).toNat := ⟨_, rfl⟩
      obtain ⟨y, hy⟩ : ∃ y, y = (N[i]?.getD 0).toNat := ⟨_, rfl⟩
      have i0 := HIT.out (p + i) x (by have := HP.out; omega) hx
      have i1 := HIN.out i y hlt hy
      have hxb : x < 256 := by rw [hx]; exact UInt8.toNat_lt _
      have hyb : y < 256 := by rw [hy]; exact UInt8.toNat_lt _
      have HX := Lib.hid hx
      have HY := Lib.hid hy
      have HBN := Lib.hid (fun n => bel0 HB.out (belN' wr n))
      have HN1 : Hid (mt (meanL b) T (p + i) ≠ mt (meanL b) N i → rb = false) := Lib.hid (HNO.out i hlt)
      have HK1 : Hid (mt (meanL b) T (p + i) = mt (meanL b) N i → ∀ j, j < i + 1 → mt (meanL b) T (p + j) = mt (meanL b) N j) := Lib.hid fun e j hj => by
        rcases Nat.lt_or_ge j i with h | h
        · exact HK.out j h
        · obtain rfl : j = i := by omega
          exact e
      clear hx hy HK
      rw [Int.natCast_add] at hw i0
      go_wp2_with fail
      go_quiet (fail)
      have HB2 := Lib.hid (HBN.out nq)
      clear HBN HB i0 i1
      generalize wr.drewN nq = w2 at *
      cases b with
      | false =>
        have HE : Hid (x = y ↔ mt (meanL false) T (p + i) = mt (meanL false) N i) := Lib.hid (mt_eq HX.out.symm HY.out.symm)
        by_cases hxy : x = y
        · have HZ := Lib.hid (HK1.out (HE.out.1 hxy))
          have h1 : (((x : Nat) : Int) != ((y : Nat) : Int)) = false := by simp; omega
          have h2 : (((x : Nat) : Int) == ((y : Nat) : Int)) = true := by simp; omega
          clear HE HN1 HK1 hxy
          go_wp2
          go_roundw
          case rel => exact ⟨i + 1, by go_num, hlt, HZ, HB2⟩
          case measure => simp [intOf]; omega
        · have HZ := Lib.hid (HN1.out fun e => hxy (HE.out.2 e))
          have h1 : (((x : Nat) : Int) != ((y : Nat) : Int)) = true := by simp; omega
          have h2 : (((x : Nat) : Int) == ((y : Nat) : Int)) = false := by simp; omega
          clear HE HN1 HK1 hxy
          go_wp2
          go_ret
          exact ⟨by rw [HZ.out]; rfl, HB2.out⟩
      | true =>
        rcases (show (65 ≤ x ∧ x ≤ 90) ∨ x < 65 ∨ 90 < x by omega) with hx | hx | hx
        · rcases (show (65 ≤ y ∧ y ≤ 90) ∨ y < 65 ∨ 90 < y by omega) with hy | hy | hy
          · have HE : Hid ((x + 32) = (y + 32) ↔ mt (meanL true) T (p + i) = mt (meanL true) N i) := Lib.hid (mt_eq (low_in HX.out hx.1 hx.2) (low_in HY.out hy.1 hy.2))
            have hx1 : (65 : Int) ≤ x := by omega
            have hx2 : (x : Int) ≤ 90 := by omega
            have hx3 : IntKind.u8.wrap ((x : Int) + 32) = ((x + 32 : Nat) : Int) := by rw [IntKind.wrap_u8]; omega
            have hy1 : (65 : Int) ≤ y := by omega
            have hy2 : (y : Int) ≤ 90 := by omega
            have hy3 : IntKind.u8.wrap ((y : Int) + 32) = ((y + 32 : Nat) : Int) := by rw [IntKind.wrap_u8]; omega
            by_cases hxy : (x + 32) = (y + 32)
            · have HZ := Lib.hid (HK1.out (HE.out.1 hxy))
              have h1 : ((((x + 32) : Nat) : Int) != (((y + 32) : Nat) : Int)) = false := by simp; omega
              have h2 : ((((x + 32) : Nat) : Int) == (((y + 32) : Nat) : Int)) = true := by simp; omega
              clear HE HN1 HK1 hxy
              go_wp2
              go_roundw
              case rel => exact ⟨i + 1, by go_num, hlt, HZ, HB2⟩
              case measure => simp [intOf]; omega
            · have HZ := Lib.hid (HN1.out fun e => hxy (HE.out.2 e))
              have h1 : ((((x + 32) : Nat) : Int) != (((y + 32) : Nat) : Int)) = true := by simp; omega
              have h2 : ((((x + 32) : Nat) : Int) == (((y + 32) : Nat) : Int)) = false := by simp; omega
              clear HE HN1 HK1 hxy
              go_wp2
              go_ret
              exact ⟨by rw [HZ.out]; rfl, HB2.out⟩
          · have HE : Hid ((x + 32) = y ↔ mt (meanL true) T (p + i) = mt (meanL true) N i) := Lib.hid (mt_eq (low_in HX.out hx.1 hx.2) (low_out HY.out (.inl hy)))
            have hx1 : (65 : Int) ≤ x := by omega
            have hx2 : (x : Int) ≤ 90 := by omega
            have hx3 : IntKind.u8.wrap ((x : Int) + 32) = ((x + 32 : Nat) : Int) := by rw [IntKind.wrap_u8]; omega
            have hy1 : ¬ (65 : Int) ≤ y := by omega
            by_cases hxy : (x + 32) = y
            · exact absurd hxy (by omega)
            · have HZ := Lib.hid (HN1.out fun e => hxy (HE.out.2 e))
              have h1 : ((((x + 32) : Nat) : Int) != ((y : Nat) : Int)) = true := by simp; omega
              have h2 : ((((x + 32) : Nat) : Int) == ((y : Nat) : Int)) = false := by simp; omega
              clear HE HN1 HK1 hxy
              go_wp2
              go_ret
              exact ⟨by rw [HZ.out]; rfl, HB2.out⟩
          · have HE : Hid ((x + 32) = y ↔ mt (meanL true) T (p + i) = mt (meanL true) N i) := Lib.hid (mt_eq (low_in HX.out hx.1 hx.2) (low_out HY.out (.inr hy)))
            have hx1 : (65 : Int) ≤ x := by omega
            have hx2 : (x : Int) ≤ 90 := by omega
            have hx3 : IntKind.u8.wrap ((x : Int) + 32) = ((x + 32 : Nat) : Int) := by rw [IntKind.wrap_u8]; omega
            have hy1 : (65 : Int) ≤ y := by omega
            have hy2 : ¬ (y : Int) ≤ 90 := by omega
            by_cases hxy : (x + 32) = y
            · have HZ := Lib.hid (HK1.out (HE.out.1 hxy))
              have h1 : ((((x + 32) : Nat) : Int) != ((y : Nat) : Int)) = false := by simp; omega
              have h2 : ((((x + 32) : Nat) : Int) == ((y : Nat) : Int)) = true := by simp; omega
              clear HE HN1 HK1 hxy
              go_wp2
              go_roundw
              case rel => exact ⟨i + 1, by go_num, hlt, HZ, HB2⟩
              case measure => simp [intOf]; omega
            · have HZ := Lib.hid (HN1.out fun e => hxy (HE.out.2 e))
              have h1 : ((((x + 32) : Nat) : Int) != ((y : Nat) : Int)) = true := by simp; omega
              have h2 : ((((x + 32) : Nat) : Int) == ((y : Nat) : Int)) = false := by simp; omega
              clear HE HN1 HK1 hxy
              go_wp2
              go_ret
              exact ⟨by rw [HZ.out]; rfl, HB2.out⟩
        · rcases (show (65 ≤ y ∧ y ≤ 90) ∨ y < 65 ∨ 90 < y by omega) with hy | hy | hy
          · have HE : Hid (x = (y + 32) ↔ mt (meanL true) T (p + i) = mt (meanL true) N i) := Lib.hid (mt_eq (low_out HX.out (.inl hx)) (low_in HY.out hy.1 hy.2))
            have hx1 : ¬ (65 : Int) ≤ x := by omega
            have hy1 : (65 : Int) ≤ y := by omega
            have hy2 : (y : Int) ≤ 90 := by omega
            have hy3 : IntKind.u8.wrap ((y : Int) + 32) = ((y + 32 : Nat) : Int) := by rw [IntKind.wrap_u8]; omega
            by_cases hxy : x = (y + 32)
            · exact absurd hxy (by omega)
            · have HZ := Lib.hid (HN1.out fun e => hxy (HE.out.2 e))
              have h1 : (((x : Nat) : Int) != (((y + 32) : Nat) : Int)) = true := by simp; omega
              have h2 : (((x : Nat) : Int) == (((y + 32) : Nat) : Int)) = false := by simp; omega
              clear HE HN1 HK1 hxy
              go_wp2
              go_ret
              exact ⟨by rw [HZ.out]; rfl, HB2.out⟩
          · have HE : Hid (x = y ↔ mt (meanL true) T (p + i) = mt (meanL true) N i) := Lib.hid (mt_eq (low_out HX.out (.inl hx)) (low_out HY.out (.inl hy)))
            have hx1 : ¬ (65 : Int) ≤ x := by omega
            have hy1 : ¬ (65 : Int) ≤ y := by omega
            by_cases hxy : x = y
            · have HZ := Lib.hid (HK1.out (HE.out.1 hxy))
              have h1 : (((x : Nat) : Int) != ((y : Nat) : Int)) = false := by simp; omega
              have h2 : (((x : Nat) : Int) == ((y : Nat) : Int)) = true := by simp; omega
              clear HE HN1 HK1 hxy
              go_wp2
              go_roundw
              case rel => exact ⟨i + 1, by go_num, hlt, HZ, HB2⟩
              case measure => simp [intOf]; omega
            · have HZ := Lib.hid (HN1.out fun e => hxy (HE.out.2 e))
              have h1 : (((x : Nat) : Int) != ((y : Nat) : Int)) = true := by simp; omega
              have h2 : (((x : Nat) : Int) == ((y : Nat) : Int)) = false := by simp; omega
              clear HE HN1 HK1 hxy
              go_wp2
              go_ret
              exact ⟨by rw [HZ.out]; rfl, HB2.out⟩
          · have HE : Hid (x = y ↔ mt (meanL true) T (p + i) = mt (meanL true) N i) := Lib.hid (mt_eq (low_out HX.out (.inl hx)) (low_out HY.out (.inr hy)))
            have hx1 : ¬ (65 : Int) ≤ x := by omega
            have hy1 : (65 : Int) ≤ y := by omega
            have hy2 : ¬ (y : Int) ≤ 90 := by omega
            by_cases hxy : x = y
            · have HZ := Lib.hid (HK1.out (HE.out.1 hxy))
              have h1 : (((x : Nat) : Int) != ((y : Nat) : Int)) = false := by simp; omega
              have h2 : (((x : Nat) : Int) == ((y : Nat) : Int)) = true := by simp; omega
              clear HE HN1 HK1 hxy
              go_wp2
              go_roundw
              case rel => exact ⟨i + 1, by go_num, hlt, HZ, HB2⟩
              case measure => simp [intOf]; omega
            · have HZ := Lib.hid (HN1.out fun e => hxy (HE.out.2 e))
              have h1 : (((x : Nat) : Int) != ((y : Nat) : Int)) = true := by simp; omega
              have h2 : (((x : Nat) : Int) == ((y : Nat) : Int)) = false := by simp; omega
              clear HE HN1 HK1 hxy
              go_wp2
              go_ret
              exact ⟨by rw [HZ.out]; rfl, HB2.out⟩
        · rcases (show (65 ≤ y ∧ y ≤ 90) ∨ y < 65 ∨ 90 < y by omega) with hy | hy | hy
          · have HE : Hid (x = (y + 32) ↔ mt (meanL true) T (p + i) = mt (meanL true) N i) := Lib.hid (mt_eq (low_out HX.out (.inr hx)) (low_in HY.out hy.1 hy.2))
            have hx1 : (65 : Int) ≤ x := by omega
            have hx2 : ¬ (x : Int) ≤ 90 := by omega
            have hy1 : (65 : Int) ≤ y := by omega
            have hy2 : (y : Int) ≤ 90 := by omega
            have hy3 : IntKind.u8.wrap ((y : Int) + 32) = ((y + 32 : Nat) : Int) := by rw [IntKind.wrap_u8]; omega
            by_cases hxy : x = (y + 32)
            · have HZ := Lib.hid (HK1.out (HE.out.1 hxy))
              have h1 : (((x : Nat) : Int) != (((y + 32) : Nat) : Int)) = false := by simp; omega
              have h2 : (((x : Nat) : Int) == (((y + 32) : Nat) : Int)) = true := by simp; omega
              clear HE HN1 HK1 hxy
              go_wp2
              go_roundw
              case rel => exact ⟨i + 1, by go_num, hlt, HZ, HB2⟩
              case measure => simp [intOf]; omega
            · have HZ := Lib.hid (HN1.out fun e => hxy (HE.out.2 e))
              have h1 : (((x : Nat) : Int) != (((y + 32) : Nat) : Int)) = true := by simp; omega
              have h2 : (((x : Nat) : Int) == (((y + 32) : Nat) : Int)) = false := by simp; omega
              clear HE HN1 HK1 hxy
              go_wp2
              go_ret
              exact ⟨by rw [HZ.out]; rfl, HB2.out⟩
          · have HE : Hid (x = y ↔ mt (meanL true) T (p + i) = mt (meanL true) N i) := Lib.hid (mt_eq (low_out HX.out (.inr hx)) (low_out HY.out (.inl hy)))
            have hx1 : (65 : Int) ≤ x := by omega
            have hx2 : ¬ (x : Int) ≤ 90 := by omega
            have hy1 : ¬ (65 : Int) ≤ y := by omega
            by_cases hxy : x = y
            · have HZ := Lib.hid (HK1.out (HE.out.1 hxy))
              have h1 : (((x : Nat) : Int) != ((y : Nat) : Int)) = false := by simp; omega
              have h2 : (((x : Nat) : Int) == ((y : Nat) : Int)) = true := by simp; omega
              clear HE HN1 HK1 hxy
              go_wp2
              go_roundw
              case rel => exact ⟨i + 1, by go_num, hlt, HZ, HB2⟩
              case measure => simp [intOf]; omega
            · have HZ := Lib.hid (HN1.out fun e => hxy (HE.out.2 e))
              have h1 : (((x : Nat) : Int) != ((y : Nat) : Int)) = true := by simp; omega
              have h2 : (((x : Nat) : Int) == ((y : Nat) : Int)) = false := by simp; omega
              clear HE HN1 HK1 hxy
              go_wp2
              go_ret
              exact ⟨by rw [HZ.out]; rfl, HB2.out⟩
          · have HE : Hid (x = y ↔ mt (meanL true) T (p + i) = mt (meanL true) N i) := Lib.hid (mt_eq (low_out HX.out (.inr hx)) (low_out HY.out (.inr hy)))
            have hx1 : (65 : Int) ≤ x := by omega
            have hx2 : ¬ (x : Int) ≤ 90 := by omega
            have hy1 : (65 : Int) ≤ y := by omega
            have hy2 : ¬ (y : Int) ≤ 90 := by omega
            by_cases hxy : x = y
            · have HZ := Lib.hid (HK1.out (HE.out.1 hxy))
              have h1 : (((x : Nat) : Int) != ((y : Nat) : Int)) = false := by simp; omega
              have h2 : (((x : Nat) : Int) == ((y : Nat) : Int)) = true := by simp; omega
              clear HE HN1 HK1 hxy
              go_wp2
              go_roundw
              case rel => exact ⟨i + 1, by go_num, hlt, HZ, HB2⟩
              case measure => simp [intOf]; omega
            · have HZ := Lib.hid (HN1.out fun e => hxy (HE.out.2 e))
              have h1 : (((x : Nat) : Int) != ((y : Nat) : Int)) = true := by simp; omega
              have h2 : (((x : Nat) : Int) == ((y : Nat) : Int)) = false := by simp; omega
              clear HE HN1 HK1 hxy
              go_wp2
              go_ret
              exact ⟨by rw [HZ.out]; rfl, HB2.out⟩
    · obtain rfl : i = nl := by omega
      have HZ := Lib.hid (HALL.out HK.out)
      have hni : ¬ (i : Int) < i := by omega
      go_wp2
      go_ret
      exact ⟨by rw [HZ.out]; rfl, HB.out⟩

end Go.Proofs.Ytjifekdjkjnefaa
