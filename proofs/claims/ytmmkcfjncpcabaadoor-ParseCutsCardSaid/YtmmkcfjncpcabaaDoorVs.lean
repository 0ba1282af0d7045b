/- The document's Same of rows of rows of numbers (as Kg has it: reduce.py drops it there, since Us has a theorem of that name). -/
import Derived.Test.YtmmkcfjncpcabaaDoorVq
import Derived.Deep.RegionHeld3
namespace Go.Proofs.YtmmkcfjncpcabaaDoor
open Go.RowKit

set_option maxRecDepth 100000 in
set_option maxHeartbeats 2000000 in
theorem same3_any (A A' : Option Addr) (xs ys : List (List Int)) (n n' c c' : Nat) (hn : n = xs.length) (hn' : n' = ys.length) (h63 : n ≤ 9223372036854775807) (hrow : ∀ i : Nat, (xs[i]?.getD []).length ≤ 9223372036854775807) (w : World) (hR : RG w w.heap.size A xs) (hR' : RG w w.heap.size A' ys) :
    Calls Tryd.prog 21 #[.slice A n c, .slice A' n' c'] w fun e w' => e = .returned (.bool (sameL xs ys)) ∧ Below w.heap.size w w' := by
  by_cases hnn : n = n'
  · have HN := Lib.hid hn
    have HN' := Lib.hid (hnn.trans hn')
    have HR := Lib.hid hR
    have HR' := Lib.hid hR'
    have HROW := Lib.hid hrow
    subst hnn
    clear hn hn' hR hR' hrow
    go_enter Tryd.func21, Tryd.ntmps21
    go_wp2
    go_loopw [5] (fun i wr => ∃ k : Nat, k ≤ n ∧ i = .int .i64 k ∧ Hid (xs.take k = ys.take k) ∧ Hid (Below w.heap.size w wr)) (fun i _ => n - (intOf i).toNat)
    case atStart => exact ⟨0, Nat.zero_le _, rfl, Lib.hid rfl, Lib.hid (Below.refl _ _)⟩
    case round =>
      obtain ⟨k, hk, rfl, HK, hB⟩ := hrel
      by_cases hlt : k < n
      · obtain ⟨b, off, e, hblt, hc⟩ := (HR.out.below hB.out) (fun e => by have := HN.out; rw [e] at this; simp at this; omega)
        obtain ⟨b', off', e', hblt', hc'⟩ := (HR'.out.below hB.out) (fun e => by have := HN'.out; rw [e] at this; simp at this; omega)
        subst e; subst e'
        obtain ⟨Ai, ci, hck, hri, _⟩ := hc k (HN.out ▸ hlt)
        obtain ⟨Ai', ci', hck', hri', _⟩ := hc' k (HN'.out ▸ hlt)
        have hli : (k : Int) < n := by omega
        have hsz := hB.out.size
        have HNE : Hid (xs[k]?.getD [] ≠ ys[k]?.getD [] → sameL xs ys = false) := Lib.hid (sameL_some k)
        have HEQ : Hid (xs[k]?.getD [] = ys[k]?.getD [] → xs.take (k + 1) = ys.take (k + 1)) := Lib.hid (take_sameL k HK.out (HN.out ▸ hlt) (HN'.out ▸ hlt))
        have hxl := HROW.out k
        clear hc hc' HR HR' HN HN' HK HROW
        generalize xs[k]?.getD [] = x at *
        generalize ys[k]?.getD [] = y at *
        have HI : Hid (∀ W, Below wr.heap.size wr W → Calls Tryd.prog 30 #[.slice Ai x.length ci, .slice Ai' y.length ci'] W fun e w' => e = .returned (.bool (intsB x y)) ∧ Below W.heap.size W w') := Lib.hid fun W hW => ints_any Ai Ai' x y _ _ ci ci' rfl rfl hxl W ((hri.more hsz).past hW) ((hri'.more hsz).past hW)
        have HXY : Hid (intsB x y = decide (x = y)) := Lib.hid rfl
        generalize x.length = nx at *
        generalize y.length = ny at *
        have hS : (wr.cell? ⟨b, off + k, none⟩ = some (.slice Ai nx ci) ∧ wr.cell? ⟨b', off' + k, none⟩ = some (.slice Ai' ny ci')) ∧ b < wr.heap.size ∧ b' < wr.heap.size ∧ Below wr.heap.size wr wr := ⟨⟨hck, hck'⟩, Nat.lt_of_lt_of_le hblt hsz, Nat.lt_of_lt_of_le hblt' hsz, Below.refl _ _⟩
        have hSd := two_step (a := ⟨b, off + k, none⟩) (a' := ⟨b', off' + k, none⟩) hS ((Below.refl wr.heap.size wr).drew)
        have HB := Lib.hid hB.out
        have HSZ := Lib.hid hsz
        clear hri hri' hck hck' hblt hblt' hB hsz hxl
        generalize hbb : intsB x y = r at *
        have HBB := Lib.hid hbb
        clear hbb
        go_wp2
        go_region_held3 (fun W => (W.cell? ⟨b, off + k, none⟩ = some (.slice Ai nx ci) ∧ W.cell? ⟨b', off' + k, none⟩ = some (.slice Ai' ny ci')) ∧ b < W.heap.size ∧ b' < W.heap.size ∧ Below wr.heap.size wr W)
          (first | exact hSd | exact two_step (a := ⟨b, off + k, none⟩) (a' := ⟨b', off' + k, none⟩) hSd hb6 | exact two_step (a := ⟨b, off + k, none⟩) (a' := ⟨b', off' + k, none⟩) (by assumption) hb6)
          (first
            | (go_at_call 30; (with_reducible refine (HI.out _ ?_).mono ?_); (first | exact two_below (a := ⟨b, off + k, none⟩) (a' := ⟨b', off' + k, none⟩) (by assumption) | exact two_below (a := ⟨b, off + k, none⟩) (a' := ⟨b', off' + k, none⟩) hSd); rintro e6 w6 ⟨rfl, hb6⟩))
        have HBN := Lib.hid (bel0 HB.out (two_below (a := ⟨b, off + k, none⟩) (a' := ⟨b', off' + k, none⟩) (by assumption)))
        cases r with
        | true =>
          have HZ := Lib.hid (HEQ.out (of_decide_eq_true HXY.out.symm))
          clear HEQ HNE HXY HBB
          go_wp2
          go_roundw
          case rel => exact ⟨k + 1, hlt, by go_num, HZ, HBN⟩
          case measure => simp [intOf]; omega
        | false =>
          have HZ := Lib.hid (HNE.out (of_decide_eq_false HXY.out.symm))
          clear HEQ HNE HXY HBB
          go_wp2
          go_ret
          exact ⟨by rw [HZ.out]; rfl, HBN.out⟩
      · have : k = n := by omega
        subst this
        have HZ := Lib.hid (sameL_all k HK.out (by rw [← HN.out]; exact Nat.le_refl _) (by rw [← HN'.out]; exact Nat.le_refl _))
        clear HK
        go_wp2
        go_ret
        exact ⟨by rw [HZ.out]; rfl, hB.out⟩
  · have HZ := Lib.hid (sameL_none (xs := xs) (ys := ys) (by rw [← hn, ← hn']; exact hnn))
    have hnb : ((n : Int) == n') = false := by simp; omega
    have hnc : ((n : Int) != n') = true := by simp; omega
    clear hn hn' hR hR' hnn hrow
    go_enter Tryd.func21, Tryd.ntmps21
    go_wp2
    go_ret
    exact ⟨by rw [HZ.out]; rfl, Below.refl _ _⟩

end Go.Proofs.YtmmkcfjncpcabaaDoor
