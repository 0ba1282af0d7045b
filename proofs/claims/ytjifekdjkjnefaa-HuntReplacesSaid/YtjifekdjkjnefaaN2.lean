/- The document's Same and stands, which only read. -/
import Derived.Test.YtjifekdjkjnefaaK5
import Derived.BigQuiet
namespace Go.Proofs.Ytjifekdjkjnefaa
open Go.RowKit

theorem drews {w wr : World} (h : ∃ m, wr = w.drewN m) (n : Nat) : ∃ m, wr.drewN n = w.drewN m := by
  obtain ⟨m, rfl⟩ := h
  exact ⟨m + n, World.drewN_drewN ..⟩
set_option maxRecDepth 100000 in
set_option maxHeartbeats 4000000 in
theorem refSameQ_any (T N : List UInt8) (hT : T.length ≤ 1000000000) (hN : N.length ≤ 1000000000) (p : Nat) (hp : p + N.length ≤ T.length) (w : World) :
    Calls Try.prog 35 #[.string (bsB T), .string (bsB N), .int .i64 p, .bool false] w fun e w' => e = .returned (.bool (decide (Stands (meanL false) T N p))) ∧ ∃ m, w' = w.drewN m := by
  have hsT : ((bsB T).size : Int) = T.length := by rw [bsB_size]
  have hsN : ((bsB N).size : Int) = N.length := by rw [bsB_size]
  have HP := Lib.hid hp
  have HIT : Hid (∀ k x, k < T.length → x = (T[k]?.getD 0).toNat → ∀ W, (Instr.index 9 (.string (bsB T)) (.int .i64 k)).run Try.prog W = .ok (.int .u8 x) W) := Lib.hid (idx_as T)
  have HIN : Hid (∀ k x, k < N.length → x = (N[k]?.getD 0).toNat → ∀ W, (Instr.index 9 (.string (bsB N)) (.int .i64 k)).run Try.prog W = .ok (.int .u8 x) W) := Lib.hid (idx_as N)
  have HALL : Hid ((∀ j, j < N.length → mt (meanL false) T (p + j) = mt (meanL false) N j) → decide (Stands (meanL false) T N p) = true) := Lib.hid fun h => decide_eq_true ⟨hp, h⟩
  have HNO : Hid (∀ i, i < N.length → mt (meanL false) T (p + i) ≠ mt (meanL false) N i → decide (Stands (meanL false) T N p) = false) := Lib.hid fun i hi h => stands_no hi h
  generalize decide (Stands (meanL false) T N p) = rb at *
  generalize hbT : bsB T = sT at *
  generalize hbN : bsB N = sN at *
  generalize hlT : T.length = tl at *
  generalize hlN : N.length = nl at *
  clear hlT hlN hbT hbN hp
  go_enter Try.func35, Try.ntmps35
  go_wp2
  go_loopw [9] (fun q wr => ∃ i : Nat, q = .int .i64 i ∧ i ≤ nl ∧ Hid (∀ j, j < i → mt (meanL false) T (p + j) = mt (meanL false) N j) ∧ Hid (∃ m, wr = w.drewN m)) (fun q _ => nl - (intOf q).toNat)
  case atStart => exact ⟨0, by go_num, Nat.zero_le _, Lib.hid fun j hj => absurd hj (Nat.not_lt_zero j), Lib.hid ⟨0, rfl⟩⟩
  case round =>
    obtain ⟨i, rfl, hi, HK, HB⟩ := hrel
    by_cases hlt : i < nl
    · have hlti : (i : Int) < nl := by omega
      have hw : IntKind.i64.wrap ((p : Int) + i) = ((p + i : Nat) : Int) := by rw [IntKind.wrap_i64]; have := HP.out; omega
      obtain ⟨x, hx⟩ : ∃ x, x = (T[p + i]?.getD 0).toNat := ⟨_, rfl⟩
      obtain ⟨y, hy⟩ : ∃ y, y = (N[i]?.getD 0).toNat := ⟨_, rfl⟩
      have i0 := HIT.out (p + i) x (by have := HP.out; omega) hx
      have i1 := HIN.out i y hlt hy
      have hxb : x < 256 := by rw [hx]; exact UInt8.toNat_lt _
      have hyb : y < 256 := by rw [hy]; exact UInt8.toNat_lt _
      have HX := Lib.hid hx
      have HY := Lib.hid hy
      have HBN := Lib.hid (fun n => drews HB.out n)
      have HN1 : Hid (mt (meanL false) T (p + i) ≠ mt (meanL false) N i → rb = false) := Lib.hid (HNO.out i hlt)
      have HK1 : Hid (mt (meanL false) T (p + i) = mt (meanL false) N i → ∀ j, j < i + 1 → mt (meanL false) T (p + j) = mt (meanL false) N j) := Lib.hid fun e j hj => by
        rcases Nat.lt_or_ge j i with h | h
        · exact HK.out j h
        · obtain rfl : j = i := by omega
          exact e
      clear hx hy HK
      rw [Int.natCast_add] at hw i0
      go_wp2_with fail
      go_quiet (fail)
      have HB2 := Lib.hid (HBN.out nq)
      clear HBN HB i0 i1
      generalize wr.drewN nq = w2 at *
      have HE : Hid (x = y ↔ mt (meanL false) T (p + i) = mt (meanL false) N i) := Lib.hid (mt_eq HX.out.symm HY.out.symm)
      by_cases hxy : x = y
      · have HZ := Lib.hid (HK1.out (HE.out.1 hxy))
        have h1 : (((x : Nat) : Int) != ((y : Nat) : Int)) = false := by simp; omega
        have h2 : (((x : Nat) : Int) == ((y : Nat) : Int)) = true := by simp; omega
        clear HE HN1 HK1 hxy
        go_wp2
        go_roundw
        case rel => exact ⟨i + 1, by go_num, hlt, HZ, HB2⟩
        case measure => simp [intOf]; omega
      · have HZ := Lib.hid (HN1.out fun e => hxy (HE.out.2 e))
        have h1 : (((x : Nat) : Int) != ((y : Nat) : Int)) = true := by simp; omega
        have h2 : (((x : Nat) : Int) == ((y : Nat) : Int)) = false := by simp; omega
        clear HE HN1 HK1 hxy
        go_wp2
        go_ret
        exact ⟨by rw [HZ.out]; rfl, HB2.out⟩
    · obtain rfl : i = nl := by omega
      have HZ := Lib.hid (HALL.out HK.out)
      have hni : ¬ (i : Int) < i := by omega
      go_wp2
      go_ret
      exact ⟨by rw [HZ.out]; rfl, HB.out⟩

set_option maxRecDepth 100000 in
theorem standsQ_any (T : List UInt8) (Ns : List (List UInt8)) (a i : Nat) (hT : T.length ≤ 1000000) (hN : (nAt Ns i).length ≤ 1000000) (w : World) :
    Calls Try.prog 24 #[.string (bsB T), .string (bsB (nAt Ns i)), .int .i64 a] w fun e w' => e = .returned (.bool (stB T Ns a i)) ∧ ∃ m, w' = w.drewN m := by
  have hsT : ((bsB T).size : Int) = T.length := by rw [bsB_size]
  have hsN : ((bsB (nAt Ns i)).size : Int) = (nAt Ns i).length := by rw [bsB_size]
  have hw0 : IntKind.i64.wrap ((T.length : Int) - (nAt Ns i).length) = (T.length : Int) - (nAt Ns i).length := IntWalk.i64_in _ (by omega)
  by_cases h0 : nAt Ns i = []
  · have hst : stB T Ns a i = false := decide_eq_false fun h => h.1 h0
    have hz : ¬ (0 : Int) < (nAt Ns i).length := by rw [h0]; decide
    rw [hst]
    clear h0 hst
    generalize (nAt Ns i).length = nl at *
    generalize bsB (nAt Ns i) = sN at *
    generalize bsB T = sT at *
    go_enter Try.func24, Try.ntmps24
    go_wp2
    go_ret
    exact ⟨rfl, 0, rfl⟩
  · have hp := List.length_pos_iff.2 h0
    have hz : (0 : Int) < (nAt Ns i).length := by omega
    by_cases hle : a + (nAt Ns i).length ≤ T.length
    · have hlei : (a : Int) ≤ (T.length : Int) - (nAt Ns i).length := by omega
      have HS : Hid (Calls Try.prog 35 #[.string (bsB T), .string (bsB (nAt Ns i)), .int .i64 a, .bool false] w fun e w' => e = .returned (.bool (stB T Ns a i)) ∧ ∃ m, w' = w.drewN m) := Lib.hid (by
        have h1 := refSameQ_any T (nAt Ns i) (by omega) (by omega) a hle w
        have e : decide (Stands (meanL false) T (nAt Ns i) a) = stB T Ns a i := by
          unfold stB
          have : (nAt Ns i ≠ [] ∧ Stands idL T (nAt Ns i) a) ↔ Stands idL T (nAt Ns i) a := ⟨fun h => h.2, fun h => ⟨h0, h⟩⟩
          rw [decide_eq_decide]
          exact this.symm
        rwa [e] at h1)
      clear h0 hp hle
      generalize stB T Ns a i = rb at *
      generalize (nAt Ns i).length = nl at *
      generalize bsB (nAt Ns i) = sN at *
      generalize bsB T = sT at *
      go_enter Try.func24, Try.ntmps24
      go_wp2_with (go_at_call 35; (with_reducible refine (HS.out).mono ?_); rintro e w2 ⟨rfl, hb2⟩; have HB2 := Lib.hid hb2; clear hb2)
      go_ret
      exact ⟨rfl, HB2.out⟩
    · have hlei : ¬ (a : Int) ≤ (T.length : Int) - (nAt Ns i).length := by omega
      have hst : stB T Ns a i = false := decide_eq_false fun h => hle h.2.1
      rw [hst]
      clear h0 hp hle hst
      generalize (nAt Ns i).length = nl at *
      generalize bsB (nAt Ns i) = sN at *
      generalize bsB T = sT at *
      go_enter Try.func24, Try.ntmps24
      go_wp2
      go_ret
      exact ⟨rfl, 0, rfl⟩

end Go.Proofs.Ytjifekdjkjnefaa
