/- The walks of slices.Equal at cells, and of blank. -/
import Derived.Test.YtoiekhjmfoodiaaDoorGj
namespace Go.Proofs.YtoiekhjmfoodiaaDoor
open Go.RowKit

set_option maxRecDepth 100000 in
set_option maxHeartbeats 4000000 in
theorem equalC_any (A A' : Option Addr) (l l' : List CC) (n n' c c' : Nat) (hn : n = l.length) (hn' : n' = l'.length) (hl : n ≤ 1000000000) (w : World) (h : RC w w.heap.size A l) (h' : RC w w.heap.size A' l') :
    Calls Tryd.prog 24 #[.slice A n c, .slice A' n' c'] w fun e w' => e = .returned (.bool (sameC l l')) ∧ Below w.heap.size w w' := by
  by_cases hnn : n = n'
  · subst hnn
    have HR := Lib.hid h
    have HR' := Lib.hid h'
    have HN := Lib.hid hn
    have HN' := Lib.hid hn'
    have hg := Cell_guard
    clear h h' hn hn'
    go_enter Tryd.func24, Tryd.ntmps24
    go_wp2
    go_loopw [13] (fun i wr => ∃ k : Nat, k ≤ n ∧ i = .int .i64 k ∧ Hid (∀ j, j < k → eqC (Ac l j) (Ac l' j) = true) ∧ Hid (Below w.heap.size w wr)) (fun i _ => n - (intOf i).toNat)
    case atStart => exact ⟨0, Nat.zero_le _, rfl, Lib.hid (fun j hj => by omega), Lib.hid (Below.refl _ _)⟩
    case round =>
      obtain ⟨k, hk, rfl, HK, HB⟩ := hrel
      by_cases hlt : k < n
      · have hki : (k : Int) < n := by omega
        obtain ⟨b, off, rfl, hG⟩ := HR.out.at (fun e => by have := HN.out; rw [e] at this; simp at this; omega)
        obtain ⟨b', off', rfl, hG'⟩ := HR'.out.at (fun e => by have := HN'.out; rw [e] at this; simp at this; omega)
        obtain ⟨G0, GA⟩ := hG _ HB.out
        obtain ⟨L0, LA⟩ := hG' _ HB.out
        obtain ⟨a0, a1, a2, a3, a4, a5, a6, a7⟩ := GA k (by have := HN.out; omega)
        obtain ⟨k0, k1, k2, k3, k4, k5, k6, k7⟩ := LA k (by have := HN'.out; omega)
        have hB' := fun nq => Lib.hid (bel0 HB.out (belN' wr nq))
        clear hG hG' GA LA
        cases hq : eqC (Ac l k) (Ac l' k) with
        | true =>
          have hq1 := fun W => eqCell W (Ac l k) (Ac l' k)
          rw [hq] at hq1
          have HQ := Lib.hid hq
          have HKN : Hid (∀ j, j < k + 1 → eqC (Ac l j) (Ac l' j) = true) := Lib.hid fun j hj => by
            rcases (by omega : j < k ∨ j = k) with h | rfl
            · exact HK.out j h
            · exact HQ.out
          clear hq HK HQ
          generalize Ac l k = x at *
          generalize Ac l' k = y at *
          go_wp2
          go_quiet (fail)
          go_wp2
          go_roundw
          case rel => exact ⟨k + 1, hlt, by go_num, HKN, hB' nq⟩
          case measure => simp [intOf]; omega
        | false =>
          have hq1 := fun W => eqCell W (Ac l k) (Ac l' k)
          rw [hq] at hq1
          have HS := Lib.hid (sameC_no k (by have := HN.out; omega) hq)
          clear hq HK
          generalize Ac l k = x at *
          generalize Ac l' k = y at *
          go_wp2
          go_quiet (fail)
          go_wp2
          go_ret
          exact ⟨(by rw [HS.out]; try rfl), (hB' nq).out⟩
      · obtain rfl : k = n := by omega
        have HS := Lib.hid (sameC_yes (l := l) (l' := l') (by have := HN.out; have := HN'.out; omega) (fun j hj => HK.out j (by have := HN.out; omega)))
        clear HK
        go_wp2
        go_ret
        exact ⟨(by rw [HS.out]; try rfl), HB.out⟩
  · have HS := Lib.hid (sameC_len (by omega : l.length ≠ l'.length))
    have hd : (n : Int) ≠ n' := by omega
    clear h h' hn hn'
    generalize sameC l l' = q at *
    go_enter Tryd.func24, Tryd.ntmps24
    go_wp2
    go_ret
    exact ⟨(by rw [HS.out]; try rfl), Below.refl _ _⟩

/-- A blank. -/
def blankC (k n : Int) : CC := ⟨0, ⟨#[]⟩, 0, 0, 0, k, n, 0⟩
def blankK (L : List CC) (s : Nat) (x : CC) : Nat → List CC
  | 0 => L
  | k + 1 => (blankK L s x k).set (s + k) x
theorem blankK_len (L : List CC) (s : Nat) (x : CC) : ∀ k, (blankK L s x k).length = L.length
  | 0 => rfl
  | k + 1 => by
    unfold blankK
    rw [List.length_set, blankK_len L s x k]
set_option maxRecDepth 100000 in
set_option maxHeartbeats 4000000 in
theorem blank_any (g s n c : Nat) (L : List CC) (bk bn : Int) (hs : s + n ≤ L.length) (hl : L.length ≤ 1000000) (w : World) (h : MC w g L) :
    Calls Tryd.prog 35 #[.slice (some ⟨g, s * 8, none⟩) n c, .agg #[.int .i64 bk, .int .i64 bn]] w fun e w' => e = .returned (.tuple #[]) ∧ MC w' g (blankK L s (blankC bk bn) n) ∧ KG g w w' := by
  have HL := Lib.hid hs
  have hn : n ≤ 1000000 := by omega
  have hsz : s ≤ 1000000 := by omega
  have hb0 := belA (Below.refl w.heap.size w) (.cells #[.int .i64 bk, .int .i64 bn] 32)
  have HM0 := Lib.hid (h.past hb0)
  have HK0 := Lib.hid ((KG.refl g w).past hb0)
  have HX0 := Lib.hid (heap_alloc_new w (.cells #[.int .i64 bk, .int .i64 bn] 32))
  have hne : w.heap.size ≠ g := fun e => by have := h.lt; omega
  have HNE := Lib.hid hne
  clear h hs hb0 hne
  go_enter Tryd.func35, Tryd.ntmps35
  go_wp2
  go_loopw [7] (fun q wr => ∃ k : Nat, q = .int .i64 k ∧ k ≤ n ∧ Hid (MC wr g (blankK L s (blankC bk bn) k)) ∧ Hid (KG g w wr) ∧ Hid (wr.heap[w.heap.size]? = some (.cells #[.int .i64 bk, .int .i64 bn] 32 (0, 0)))) (fun q _ => n - (intOf q).toNat)
  case atStart => exact ⟨0, rfl, Nat.zero_le _, HM0, HK0, HX0⟩
  case round =>
    clear HM0 HK0 HX0
    obtain ⟨k, rfl, hk, HM, HK, HX⟩ := hrel
    by_cases hlt : k < n
    · have hlti : (k : Int) < n := by omega
      have c0 := cell_of_row _ _ 0 _ _ _ HX.out
      have c1 := cell_of_row _ _ 1 _ _ _ HX.out
      have hlen := blankK_len L s (blankC bk bn) k
      obtain ⟨a0, a1, a2, a3, a4, a5, a6, a7⟩ := HM.out.at' (s + k) (by have := HL.out; omega)
      rw [Nat.add_mul] at a0 a1 a2 a3 a4 a5 a6 a7
      have hgl := HM.out.lt
      have hfr := HM.out.free
      have HMN : Hid (MC (set8 wr g (s * 8 + k * 8) (blankC bk bn)) g (blankK L s (blankC bk bn) (k + 1))) := Lib.hid (by
        have := HM.out.set (s + k) (by have := HL.out; omega) (blankC bk bn)
        rwa [Nat.add_mul] at this)
      have HKN := Lib.hid (HK.out.set8 (s * 8 + k * 8) (blankC bk bn))
      have HXN : Hid ((set8 wr g (s * 8 + k * 8) (blankC bk bn)).heap[w.heap.size]? = some (.cells #[.int .i64 bk, .int .i64 bn] 32 (0, 0))) := Lib.hid (by
        have h : ∀ (W : World) (o : Nat) (v : Value), (W.setCell ⟨g, o, none⟩ v).heap[w.heap.size]? = W.heap[w.heap.size]? := fun W o v => heap_setCell_other W ⟨g, o, none⟩ w.heap.size v HNE.out
        unfold set8
        rw [h, h, h, h, h, h, h, h]
        exact HX.out)
      generalize Ac (blankK L s (blankC bk bn) k) (s + k) = x at *
      clear hlen HM HK HX
      go_wp2
      go_roundw
      case rel => exact ⟨k + 1, by go_num, hlt, HMN, HKN, HXN⟩
      case measure => simp [intOf]; omega
    · obtain rfl : k = n := by omega
      go_wp2
      go_end0
      exact ⟨rfl, HM.out, HK.out⟩
end Go.Proofs.YtoiekhjmfoodiaaDoor
