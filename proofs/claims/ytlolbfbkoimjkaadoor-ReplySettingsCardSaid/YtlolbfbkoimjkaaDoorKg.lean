/- Rows of rows of numbers in memory; the walk of the reference's Same. -/
import Derived.Test.YtlolbfbkoimjkaaDoorKi
import Derived.Deep.RegionHeld3
namespace Go.Proofs.YtlolbfbkoimjkaaDoor
open Go.RowKit

theorem Tryd.infoInts : (Tryd.prog.info? 42).map (fun i => (i.zero, i.size, i.bytes)) = some (some (.slice none 0 0), 1, 24) := by kernel_rfl
/-- The slice value '.slice A L.length c' reads as rows of numbers; they lie below block B. -/
def RG (w : World) (B : Nat) (A : Option Addr) (L : List (List Int)) : Prop :=
  L ≠ [] → ∃ b off, A = some ⟨b, off, none⟩ ∧ b < B ∧ ∀ i, i < L.length → ∃ Ai ci, w.cell? ⟨b, off + i, none⟩ = some (.slice Ai (L[i]?.getD []).length ci) ∧ RI w B Ai (L[i]?.getD []) ∧ (L[i]?.getD []).length ≤ ci
theorem RG.below {w w' : World} {B : Nat} {A : Option Addr} {L : List (List Int)} (h : RG w B A L) (hb : Below B w w') : RG w' B A L := fun hn => by
  obtain ⟨b, off, e, hlt, hc⟩ := h hn
  refine ⟨b, off, e, hlt, fun i hi => ?_⟩
  obtain ⟨Ai, ci, h1, h2, h3⟩ := hc i hi
  exact ⟨Ai, ci, (hb.cell (p := ⟨b, off + i, none⟩) hlt).trans h1, h2.below hb, h3⟩
theorem RG.more {w : World} {B B' : Nat} {A : Option Addr} {L : List (List Int)} (h : RG w B A L) (hB : B ≤ B') : RG w B' A L := fun hn => by
  obtain ⟨b, off, e, hlt, hc⟩ := h hn
  refine ⟨b, off, e, Nat.lt_of_lt_of_le hlt hB, fun i hi => ?_⟩
  obtain ⟨Ai, ci, h1, h2, h3⟩ := hc i hi
  exact ⟨Ai, ci, h1, h2.more hB, h3⟩
theorem RG.past {w w' : World} {A : Option Addr} {L : List (List Int)} (h : RG w w.heap.size A L) (hb : Below w.heap.size w w') : RG w' w'.heap.size A L := (h.below hb).more hb.size

def sameL (xs ys : List (List Int)) : Bool := decide (xs = ys)
theorem sameL_none {xs ys : List (List Int)} (h : xs.length ≠ ys.length) : sameL xs ys = false := decide_eq_false fun e => h (by rw [e])
theorem sameL_some {xs ys : List (List Int)} (k : Nat) (h : xs[k]?.getD [] ≠ ys[k]?.getD []) : sameL xs ys = false := decide_eq_false fun e => h (by rw [e])
theorem sameL_all {xs ys : List (List Int)} (k : Nat) (h : xs.take k = ys.take k) (h1 : xs.length ≤ k) (h2 : ys.length ≤ k) : sameL xs ys = true :=
  decide_eq_true (by rw [← List.take_of_length_le h1, h, List.take_of_length_le h2])
theorem take_snocL {α : Type} (xs : List α) (k : Nat) (d : α) (h : k < xs.length) : xs.take (k + 1) = xs.take k ++ [xs[k]?.getD d] := by
  rw [List.take_succ_eq_append_getElem h, List.getElem?_eq_getElem h]; rfl
theorem take_sameL {xs ys : List (List Int)} (k : Nat) (h : xs.take k = ys.take k) (h1 : k < xs.length) (h2 : k < ys.length) (e : xs[k]?.getD [] = ys[k]?.getD []) : xs.take (k + 1) = ys.take (k + 1) := by
  rw [take_snocL xs k [] h1, take_snocL ys k [] h2, h, e]
theorem two_step {wr W W' : World} {a a' : Addr} {v v' : Value} (h : (W.cell? a = some v ∧ W.cell? a' = some v') ∧ a.block < W.heap.size ∧ a'.block < W.heap.size ∧ Below wr.heap.size wr W) (hb : Below W.heap.size W W') :
    (W'.cell? a = some v ∧ W'.cell? a' = some v') ∧ a.block < W'.heap.size ∧ a'.block < W'.heap.size ∧ Below wr.heap.size wr W' :=
  ⟨⟨(hb.cell h.2.1).trans h.1.1, (hb.cell h.2.2.1).trans h.1.2⟩, Nat.lt_of_lt_of_le h.2.1 hb.size, Nat.lt_of_lt_of_le h.2.2.1 hb.size, bel0 h.2.2.2 hb⟩
theorem two_below {wr W : World} {a a' : Addr} {v v' : Value} (h : (W.cell? a = some v ∧ W.cell? a' = some v') ∧ a.block < W.heap.size ∧ a'.block < W.heap.size ∧ Below wr.heap.size wr W) : Below wr.heap.size wr W := h.2.2.2

set_option maxRecDepth 100000 in
set_option maxHeartbeats 2000000 in
theorem same_any (A A' : Option Addr) (xs ys : List (List Int)) (n n' c c' : Nat) (hn : n = xs.length) (hn' : n' = ys.length) (h63 : n ≤ 9223372036854775807) (hrow : ∀ i : Nat, (xs[i]?.getD []).length ≤ 9223372036854775807) (w : World) (hR : RG w w.heap.size A xs) (hR' : RG w w.heap.size A' ys) :
    Calls Tryd.prog 17 #[.slice A n c, .slice A' n' c'] w fun e w' => e = .returned (.bool (sameL xs ys)) ∧ Below w.heap.size w w' := by
  by_cases hnn : n = n'
  · have HN := Lib.hid hn
    have HN' := Lib.hid (hnn.trans hn')
    have HR := Lib.hid hR
    have HR' := Lib.hid hR'
    have HROW := Lib.hid hrow
    subst hnn
    clear hn hn' hR hR' hrow
    go_enter Tryd.func17, Tryd.ntmps17
    go_wp2
    go_loopw [5] (fun i wr => ∃ k : Nat, k ≤ n ∧ i = .int .i64 k ∧ Hid (xs.take k = ys.take k) ∧ Hid (Below w.heap.size w wr)) (fun i _ => n - (intOf i).toNat)
    case atStart => exact ⟨0, Nat.zero_le _, rfl, Lib.hid rfl, Lib.hid (Below.refl _ _)⟩
    case round =>
      obtain ⟨k, hk, rfl, HK, hB⟩ := hrel
      by_cases hlt : k < n
      · obtain ⟨b, off, e, hblt, hc⟩ := (HR.out.below hB.out) (fun e => by have := HN.out; rw [e] at this; simp at this; omega)
        obtain ⟨b', off', e', hblt', hc'⟩ := (HR'.out.below hB.out) (fun e => by have := HN'.out; rw [e] at this; simp at this; omega)
        subst e; subst e'
        obtain ⟨Ai, ci, hck, hri, _⟩ := hc k (HN.out ▸ hlt)
        obtain ⟨Ai', ci', hck', hri', _⟩ := hc' k (HN'.out ▸ hlt)
        have hli : (k : Int) < n := by omega
        have hsz := hB.out.size
        have HNE : Hid (xs[k]?.getD [] ≠ ys[k]?.getD [] → sameL xs ys = false) := Lib.hid (sameL_some k)
        have HEQ : Hid (xs[k]?.getD [] = ys[k]?.getD [] → xs.take (k + 1) = ys.take (k + 1)) := Lib.hid (take_sameL k HK.out (HN.out ▸ hlt) (HN'.out ▸ hlt))
        have hxl := HROW.out k
        clear hc hc' HR HR' HN HN' HK HROW
        generalize xs[k]?.getD [] = x at *
        generalize ys[k]?.getD [] = y at *
        have HI : Hid (∀ W, Below wr.heap.size wr W → Calls Tryd.prog 34 #[.slice Ai x.length ci, .slice Ai' y.length ci'] W fun e w' => e = .returned (.bool (intsB x y)) ∧ Below W.heap.size W w') := Lib.hid fun W hW => ints_any Ai Ai' x y _ _ ci ci' rfl rfl hxl W ((hri.more hsz).past hW) ((hri'.more hsz).past hW)
        have HXY : Hid (intsB x y = decide (x = y)) := Lib.hid rfl
        generalize x.length = nx at *
        generalize y.length = ny at *
        have hS : (wr.cell? ⟨b, off + k, none⟩ = some (.slice Ai nx ci) ∧ wr.cell? ⟨b', off' + k, none⟩ = some (.slice Ai' ny ci')) ∧ b < wr.heap.size ∧ b' < wr.heap.size ∧ Below wr.heap.size wr wr := ⟨⟨hck, hck'⟩, Nat.lt_of_lt_of_le hblt hsz, Nat.lt_of_lt_of_le hblt' hsz, Below.refl _ _⟩
        have hSd := two_step (a := ⟨b, off + k, none⟩) (a' := ⟨b', off' + k, none⟩) hS ((Below.refl wr.heap.size wr).drew)
        have HB := Lib.hid hB.out
        have HSZ := Lib.hid hsz
        clear hri hri' hck hck' hblt hblt' hB hsz hxl
        generalize hbb : intsB x y = r at *
        have HBB := Lib.hid hbb
        clear hbb
        go_wp2
        go_region_held3 (fun W => (W.cell? ⟨b, off + k, none⟩ = some (.slice Ai nx ci) ∧ W.cell? ⟨b', off' + k, none⟩ = some (.slice Ai' ny ci')) ∧ b < W.heap.size ∧ b' < W.heap.size ∧ Below wr.heap.size wr W)
          (first | exact hSd | exact two_step (a := ⟨b, off + k, none⟩) (a' := ⟨b', off' + k, none⟩) hSd hb6 | exact two_step (a := ⟨b, off + k, none⟩) (a' := ⟨b', off' + k, none⟩) (by assumption) hb6)
          (first
            | (go_at_call 34; (with_reducible refine (HI.out _ ?_).mono ?_); (first | exact two_below (a := ⟨b, off + k, none⟩) (a' := ⟨b', off' + k, none⟩) (by assumption) | exact two_below (a := ⟨b, off + k, none⟩) (a' := ⟨b', off' + k, none⟩) hSd); rintro e6 w6 ⟨rfl, hb6⟩))
        have HBN := Lib.hid (bel0 HB.out (two_below (a := ⟨b, off + k, none⟩) (a' := ⟨b', off' + k, none⟩) (by assumption)))
        cases r with
        | true =>
          have HZ := Lib.hid (HEQ.out (of_decide_eq_true HXY.out.symm))
          clear HEQ HNE HXY HBB
          go_wp2
          go_roundw
          case rel => exact ⟨k + 1, hlt, by go_num, HZ, HBN⟩
          case measure => simp [intOf]; omega
        | false =>
          have HZ := Lib.hid (HNE.out (of_decide_eq_false HXY.out.symm))
          clear HEQ HNE HXY HBB
          go_wp2
          go_ret
          exact ⟨by rw [HZ.out]; rfl, HBN.out⟩
      · have : k = n := by omega
        subst this
        have HZ := Lib.hid (sameL_all k HK.out (by rw [← HN.out]; exact Nat.le_refl _) (by rw [← HN'.out]; exact Nat.le_refl _))
        clear HK
        go_wp2
        go_ret
        exact ⟨by rw [HZ.out]; rfl, hB.out⟩
  · have HZ := Lib.hid (sameL_none (xs := xs) (ys := ys) (by rw [← hn, ← hn']; exact hnn))
    have hnb : ((n : Int) == n') = false := by simp; omega
    have hnc : ((n : Int) != n') = true := by simp; omega
    clear hn hn' hR hR' hnn hrow
    go_enter Tryd.func17, Tryd.ntmps17
    go_wp2
    go_ret
    exact ⟨by rw [HZ.out]; rfl, Below.refl _ _⟩

end Go.Proofs.YtlolbfbkoimjkaaDoor
