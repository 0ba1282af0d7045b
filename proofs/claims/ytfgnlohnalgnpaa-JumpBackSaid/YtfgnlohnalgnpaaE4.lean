/- The law JumpBack. -/
import Derived.Test.YtfgnlohnalgnpaaJ9
namespace Go.Proofs.Ytfgnlohnalgnpaa
open Go.RowKit

theorem nextU (A : Option Addr) (l : List Int) (n c : Nat) (hn : n = l.length) (hl : n ≤ 1000000) (hin : ∀ x ∈ l, InB x) (x : Int) (W : World) (h : RI W W.heap.size A l) :
    Calls Try.prog 10 #[.slice A n c, .int .i64 x] W fun e w' => e = .returned (.tuple #[.int .i64 (nextV x (uqI l)).1, .bool (nextV x (uqI l)).2]) ∧ Below W.heap.size W w' := by
  rw [next_eq (uqI_mem l)]
  exact nextF_any A l n c hn hl hin x W h
theorem step_on {U : List Int} (hU : U.Pairwise (· < ·)) (p k : Nat) (hp : p < U.length) (hk : (k : Int) ≤ 9223372036854775807) : stepV U (nthI U p) k = nthI U (min (p + k) (U.length - 1)) := by
  rw [step_up hU _ _ k (.inl (by omega)) (by omega), advN_nth hU p hp]
theorem step_bk {U : List Int} (hU : U.Pairwise (· < ·)) (p k : Nat) (hp : p < U.length) : stepV U (nthI U p) (-(k : Int)) = nthI U (p - k) := by
  rw [step_back hU _ _ k (.inl (by omega)) (by omega), bckN_nth hU p hp]
set_option maxRecDepth 100000 in
set_option maxHeartbeats 8000000 in
theorem jumpBack_law (A : Option Addr) (l : List Int) (n c : Nat) (hn : n = l.length) (hin : ∀ x ∈ l, InB x) (z : Int) (hz : 0 ≤ z ∧ z ≤ 255) (u : Int) (hu : 0 ≤ u ∧ u ≤ 255) (w : World) (h : RI w w.heap.size A l) :
    Calls Try.prog 7 #[.slice A n c, .int .u8 z, .int .u8 u] w fun e w' => e = .returned (.bool true) ∧ Below w.heap.size w w' := by
  have HAW := Lib.hid awake_any
  by_cases h0 : n = 0
  · subst h0
    clear h hn hin
    go_enter Try.func7, Try.ntmps7
    go_wp2_with (go_at_call 9; (with_reducible refine (HAW.out w).mono ?_); rintro e w1 ⟨rfl, hb⟩; have HB1 := Lib.hid hb; clear hb)
    go_ret
    exact ⟨rfl, HB1.out⟩
  · by_cases hl : n ≤ 60
    · have hli : ¬ (60 : Int) < n := by omega
      have h0i : ¬ (n : Int) = 0 := by omega
      have h0b : ((n : Int) == 0) = false := by simp; omega
      have hpos : 0 < n := by omega
      obtain ⟨zn, rfl⟩ : ∃ k : Nat, z = k := ⟨z.toNat, by omega⟩
      obtain ⟨un, rfl⟩ : ∃ k : Nat, u = k := ⟨u.toNat, by omega⟩
      have hul : (uqI l).length ≤ 60 := Nat.le_trans (uqI_len l) (by omega)
      have HR := Lib.hid h
      have HN := Lib.hid hn
      obtain ⟨i, hi⟩ : ∃ i, i = zn % n := ⟨_, rfl⟩
      have hin2 : i < n := by rw [hi]; exact Nat.mod_lt _ hpos
      obtain ⟨kk, hkk⟩ : ∃ k, k = un % 60 := ⟨_, rfl⟩
      have hk60 : kk < 60 := by omega
      have hr2 : IntKind.u8.wrap ((un : Int).tmod 60) = (kk : Nat) := by rw [show (60 : Int) = ((60 : Nat) : Int) from rfl, IntWalk.up_tmod rfl rfl, hkk, IntWalk.u8_in _ (by omega)]
      obtain ⟨p, hp, hat⟩ := nthI_of ((uqI_mem l _).2 (nthI_mem (U := l) (j := i) (by omega)))
      have hc1 : IntKind.i64.wrap (zn : Int) = (zn : Int) := IntWalk.i64_in _ (by omega)
      have hc2 : IntKind.i64.wrap (kk : Int) = (kk : Int) := IntWalk.i64_in _ (by omega)
      have hneg : IntKind.i64.wrap (-(kk : Int)) = -(kk : Int) := IntWalk.i64_in _ (by omega)
      have HX := Lib.hid (fun x W h => nextU A l n c hn (by omega) hin x W h)
      have HS := Lib.hid (fun x k (hk : InB k) W h => step_any A l n c hn (by omega) x k hk W h)
      have hkB : InB (kk : Int) := by unfold InB; omega
      have hkC : InB (-(kk : Int)) := by unfold InB; omega
      have HK1 := Lib.hid hkB
      have HK2 := Lib.hid hkC
      have HU := Lib.hid (uqI_rise l)
      have HAT := Lib.hid hat
      have HI := Lib.hid hi
      have hbd : (zn : Int) % (n : Int) < n := Int.emod_lt_of_pos _ (by omega)
      have hbd0 : 0 ≤ (zn : Int) % (n : Int) := Int.emod_nonneg _ (by omega)
      have hkq : (un : Int) % 60 = (kk : Nat) := by omega
      have HP := Lib.hid hp
      clear h hn hin hi hkk hkB hkC hat hz hu hp
      generalize uqI l = U at *
      obtain ⟨b0, off0, rfl, hlt0, hc0⟩ := HR.out (fun e => by have := HN.out; rw [e] at this; simp at this; omega)
      have hc0i : ∀ W, Below w.heap.size w W → W.cell? ⟨b0, off0 + zn % n, none⟩ = some (.int .i64 (nthI U p)) := fun W hb => by
        rw [HAT.out, ← HI.out]
        exact (hb.cell (p := ⟨b0, off0 + i, none⟩) hlt0).trans (hc0 i (HN.out ▸ hin2))
      have HC := Lib.hid hc0i
      clear hc0 hc0i hlt0 HAT HI hin2
      go_enter Try.func7, Try.ntmps7
      go_wp2_with (go_at_call 9; (with_reducible refine (HAW.out w).mono ?_); rintro e w1 ⟨rfl, hb⟩; have hci := HC.out w1 hb; have HR1 := Lib.hid (HR.out.past hb); have HB1 := Lib.hid hb; clear hb HR HC)
      go_loopg [9, 10, 11, 12] kk (fun gh s9 s10 s11 s12 wx => ∃ j : Nat, j + gh = kk ∧ s10 = .int .i64 j ∧ s9 = .int .i64 (nthI U (p + j)) ∧ Hid (p + j < U.length) ∧ Hid (Below w1.heap.size w1 wx))
      case atStart => exact ⟨0, by omega, rfl, rfl, HP, Lib.hid (Below.refl _ _)⟩
      case round =>
        obtain ⟨j, hj, rfl, rfl, HJ, HB⟩ := hrel
        clear hkq hr2
        have HRr := Lib.hid (HR1.out.past HB.out)
        have HBr := Lib.hid (bel0 HB1.out HB.out)
        cases gk with
        | zero =>
          obtain rfl : kk = j := by omega
          have HS1 := Lib.hid (HS.out (nthI U p) _ HK1.out wr HRr.out)
          have HS2 := Lib.hid (fun W h => HS.out (nthI U (p + kk)) _ HK2.out W h)
          have e1 : stepV U (nthI U p) kk = nthI U (p + kk) := by
            have hj := HJ.out
            rw [step_on HU.out p kk HP.out (by omega), show min (p + kk) (U.length - 1) = p + kk by omega]
          have e2 : stepV U (nthI U (p + kk)) (-(kk : Int)) = nthI U p := by rw [step_bk HU.out _ _ HJ.out, show p + kk - kk = p by omega]
          rw [e1] at HS1
          rw [e2] at HS2
          clear e1 e2 HX HS HK1 HK2 hci
          generalize nthI U (p + kk) = y at *
          generalize nthI U p = x at *
          go_wp2_with (first
            | (go_at_call 16; (with_reducible refine HS1.out.mono ?_); rintro e w2 ⟨rfl, hb⟩; have HR2 := Lib.hid (HRr.out.past hb); have HB2 := Lib.hid (bel0 HBr.out hb); clear hb HRr HBr HS1)
            | (go_at_call 16; (with_reducible refine (HS2.out w2 HR2.out).mono ?_); rintro e w3 ⟨rfl, hb⟩; have HB3 := Lib.hid (bel0 HB2.out hb); clear hb HR2 HB2 HS2))
          go_ret
          exact ⟨rfl, HB3.out⟩
        | succ gh =>
          have hjk : (j : Int) < kk := by omega
          have HX1 := Lib.hid (HX.out (nthI U (p + j)) wr HRr.out)
          have hv := next_abv HU.out (nthI U (p + j))
          rw [abv_of HU.out (p + j) HJ.out] at hv
          by_cases hmore : p + j + 1 < U.length
          · rw [if_pos hmore] at hv
            rw [hv] at HX1
            have HM := Lib.hid hmore
            clear hv HX HS HK1 HK2 hci hmore
            obtain ⟨y, hy⟩ : ∃ y, y = nthI U (p + j + 1) := ⟨_, rfl⟩
            rw [← hy] at HX1
            have HY := Lib.hid hy
            clear hy
            generalize nthI U (p + j) = x at *
            go_wp2_with (go_at_call 10; (with_reducible refine HX1.out.mono ?_); rintro e w2 ⟨rfl, hb⟩; have HB2 := Lib.hid hb; clear hb HX1)
            go_roundg gh
            case measure => omega
            case rel => exact ⟨j + 1, by omega, by go_num, by rw [HY.out]; rfl, HM, Lib.hid (bel0 HB.out HB2.out)⟩
          · rw [if_neg hmore] at hv
            rw [hv] at HX1
            have e1 : stepV U (nthI U p) kk = nthI U (p + j) := by
              have hj := HJ.out
              rw [step_on HU.out p kk HP.out (by omega), show min (p + kk) (U.length - 1) = p + j by omega]
            have HS1 := Lib.hid (fun W h => HS.out (nthI U p) _ HK1.out W h)
            rw [e1] at HS1
            clear hv HX HS HK1 HK2 hci hmore e1
            generalize nthI U (p + j) = y at *
            generalize nthI U p = x at *
            go_wp2_with (first
              | (go_at_call 10; (with_reducible refine HX1.out.mono ?_); rintro e w2 ⟨rfl, hb⟩; have HR2 := Lib.hid (HRr.out.past hb); have HB2 := Lib.hid (bel0 HBr.out hb); clear hb HX1 HRr HBr)
              | (go_at_call 16; (with_reducible refine (HS1.out w2 HR2.out).mono ?_); rintro e w3 ⟨rfl, hb⟩; have HB3 := Lib.hid (bel0 HB2.out hb); clear hb HR2 HB2 HS1))
            go_ret
            exact ⟨rfl, HB3.out⟩
    · have hli : (60 : Int) < n := by omega
      have h0b : ((n : Int) == 0) = false := by simp; omega
      clear h hn hin
      go_enter Try.func7, Try.ntmps7
      go_wp2_with (go_at_call 9; (with_reducible refine (HAW.out w).mono ?_); rintro e w1 ⟨rfl, hb⟩; have HB1 := Lib.hid hb; clear hb)
      go_ret
      exact ⟨rfl, HB1.out⟩

end Go.Proofs.Ytfgnlohnalgnpaa
