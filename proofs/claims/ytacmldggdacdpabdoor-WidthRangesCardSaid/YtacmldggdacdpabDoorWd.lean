/- The walks of width.Text, width.begins, and of the document's Text and Joins. -/
import Derived.Test.YtacmldggdacdpabDoorWc
namespace Go.Proofs.YtacmldggdacdpabDoor
open Go.RowKit

/-- The slice value '.slice A xs.length c' reads as the numbers xs; it lies below block B. -/
def RS (w : World) (B : Nat) (A : Option Addr) (xs : List Int) : Prop :=
  xs ≠ [] → ∃ b off, A = some ⟨b, off, none⟩ ∧ b < B ∧ ∀ k, k < xs.length → w.cell? ⟨b, off + k, none⟩ = some (.int .i32 (xs[k]?.getD 0))
theorem RS.below {w w' : World} {B : Nat} {A : Option Addr} {xs : List Int} (h : RS w B A xs) (hb : Below B w w') : RS w' B A xs := fun hn => by
  obtain ⟨b, off, e, hlt, hc⟩ := h hn
  exact ⟨b, off, e, hlt, fun k hk => (hb.cell (p := ⟨b, off + k, none⟩) hlt).trans (hc k hk)⟩
theorem RS.more {w : World} {B B' : Nat} {A : Option Addr} {xs : List Int} (h : RS w B A xs) (hB : B ≤ B') : RS w B' A xs := fun hn => by
  obtain ⟨b, off, e, hlt, hc⟩ := h hn
  exact ⟨b, off, e, Nat.lt_of_lt_of_le hlt hB, hc⟩

def posZ (r : Int) : Int := max (ofZ r) 0
def textZ (xs : List Int) : Int := (xs.map posZ).sum
theorem posZ_bd (r : Int) : 0 ≤ posZ r ∧ posZ r ≤ 2 := by have := ofZ_bd r; unfold posZ; omega
theorem textZ_nil : textZ [] = 0 := rfl
theorem textZ_cons (x : Int) (xs : List Int) : textZ (x :: xs) = posZ x + textZ xs := rfl
theorem textZ_append (xs ys : List Int) : textZ (xs ++ ys) = textZ xs + textZ ys := by simp [textZ, List.sum_append]
theorem textZ_bd (xs : List Int) : 0 ≤ textZ xs ∧ textZ xs ≤ 2 * xs.length := by
  induction xs with
  | nil => simp [textZ]
  | cons x xs ih => have := posZ_bd x; rw [textZ_cons]; simp only [List.length_cons]; omega
theorem take_snocD (xs : List Int) (k : Nat) (h : k < xs.length) : xs.take (k + 1) = xs.take k ++ [xs[k]?.getD 0] := by
  rw [List.take_succ_eq_append_getElem h, List.getElem?_eq_getElem h]; rfl
theorem textZ_snoc (xs : List Int) (k : Nat) (h : k < xs.length) : textZ (xs.take (k + 1)) = textZ (xs.take k) + posZ (xs[k]?.getD 0) := by
  rw [take_snocD xs k h, textZ_append]; simp [textZ]
theorem textZ_take (xs : List Int) (k : Nat) : 0 ≤ textZ (xs.take k) ∧ textZ (xs.take k) ≤ 2 * k := by
  have h := textZ_bd (xs.take k)
  have : (xs.take k).length ≤ k := List.length_take_le _ _
  omega

set_option maxHeartbeats 400000 in
theorem text_any (A : Option Addr) (xs : List Int) (n c : Nat) (hn : n = xs.length) (hlen : n ≤ 100000) (w : World) (hT : WT w) (hR : RS w w.heap.size A xs) :
    Calls Tryd.prog 9 #[.slice A n c] w fun e w' => e = .returned (.int .i64 (textZ xs)) ∧ Below w.heap.size w w' := by
  have HN := Lib.hid hn
  have HT := Lib.hid hT
  have HR := Lib.hid hR
  clear hn hT hR
  go_enter Tryd.func9, Tryd.ntmps9
  go_wp2
  go_loopw [3, 8] (fun s i wr => ∃ k : Nat, k ≤ n ∧ i = .int .i64 k ∧ s = .int .i64 (textZ (xs.take k)) ∧ Hid (Below w.heap.size w wr)) (fun _ i _ => n - (intOf i).toNat)
  case atStart => exact ⟨0, Nat.zero_le _, rfl, rfl, Lib.hid (Below.refl _ _)⟩
  case round =>
    obtain ⟨k, hk, rfl, rfl, hB⟩ := hrel
    obtain ⟨hs0, hs1⟩ := textZ_take xs k
    by_cases hlt : k < n
    · have HS := Lib.hid (textZ_snoc xs k (HN.out ▸ hlt))
      obtain ⟨b, off, e, hblt, hc⟩ := HR.out (fun e => by have := HN.out; rw [e] at this; simp at this; omega)
      subst e
      have hck : wr.cell? ⟨b, off + k, none⟩ = some (.int .i32 (xs[k]?.getD 0)) := (hB.out.cell (p := ⟨b, off + k, none⟩) hblt).trans (hc k (HN.out ▸ hlt))
      have hof := widthOf_any (xs[k]?.getD 0) wr (HT.out.below hB.out)
      obtain ⟨hz1, hz2⟩ := ofZ_bd (xs[k]?.getD 0)
      have HP : Hid (posZ (xs[k]?.getD 0) = max (ofZ (xs[k]?.getD 0)) 0) := Lib.hid rfl
      clear hc HR HT HN hblt
      generalize ofZ (xs[k]?.getD 0) = z at *
      generalize posZ (xs[k]?.getD 0) = pz at *
      generalize textZ (xs.take k) = t0 at *
      generalize xs[k]?.getD 0 = x at *
      go_wp2_with (go_at_call 8; refine hof.mono ?_; rintro e w' ⟨rfl, hb'⟩)
      go_roundw
      case rel => exact ⟨k + 1, hlt, by go_num, congrArg (Value.int .i64) (by rw [HS.out, HP.out]; split <;> omega), Lib.hid (hB.out.trans (hb'.mono hB.out.size))⟩
      case measure => simp [intOf]; omega
    · have : k = n := by omega
      subst this
      have HZ : Hid (textZ (xs.take k) = textZ xs) := Lib.hid (by rw [List.take_of_length_le (by rw [HN.out]; omega)])
      go_wp2
      go_ret
      exact ⟨by rw [← HZ.out]; rfl, hB.out⟩

/-- Does a scalar begin a cluster behind the one ahead? -/
def begB (a r : Int) : Bool := decide (ofZ r ≠ 0) || decide (ofZ a < 0)

set_option maxHeartbeats 400000 in
theorem begins_any (a r : Int) (w : World) (hT : WT w) :
    Calls Tryd.prog 20 #[.int .i32 a, .int .i32 r] w fun e w' => e = .returned (.bool (begB a r)) ∧ Below w.heap.size w w' := by
  have h1 := widthOf_any r w hT
  have HO : Hid (∀ W, Below w.heap.size w W → Calls Tryd.prog 8 #[.int .i32 a] W fun e w' => e = .returned (.int .i64 (ofZ a)) ∧ Below W.heap.size W w') := Lib.hid fun W hW => widthOf_any a W (hT.below hW)
  have HE : Hid (begB a r = (decide (ofZ r ≠ 0) || decide (ofZ a < 0))) := Lib.hid rfl
  clear hT
  generalize begB a r = bb at *
  generalize ofZ r = z at *
  generalize ofZ a = y at *
  by_cases hz : z = 0
  · by_cases hy : y < 0
    all_goals
      subst hz
      go_enter Tryd.func20, Tryd.ntmps20
      go_wp2_with (first | (go_at_call 8; refine h1.mono ?_; clear h1; rintro e w1 ⟨rfl, hb1⟩) | (go_at_call 8; refine (HO.out _ hb1).mono ?_; rintro e w2 ⟨rfl, hb2⟩))
      go_ret
      exact ⟨by rw [HE.out]; simp [hy], hb1.trans (hb2.mono hb1.size)⟩
  · have hz' : (z == 0) = false := by simpa using hz
    have hz'' : (z != 0) = true := by simpa using hz
    go_enter Tryd.func20, Tryd.ntmps20
    go_wp2_with (first | (go_at_call 8; refine h1.mono ?_; clear h1; rintro e w1 ⟨rfl, hb1⟩) | (go_at_call 8; refine (HO.out _ hb1).mono ?_; rintro e w2 ⟨rfl, hb2⟩))
    go_ret
    exact ⟨by rw [HE.out]; simp [hz], hb1⟩

end Go.Proofs.YtacmldggdacdpabDoor
