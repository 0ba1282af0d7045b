/- The walk of cells.Mark. -/
import Derived.Test.YtoiekhjmfoodiaaDoorYt
import Derived.Test.YtoiekhjmfoodiaaDoorYk
import Derived.Test.YtoiekhjmfoodiaaDoorYj
import Derived.Laws.Cover4
namespace Go.Proofs.YtoiekhjmfoodiaaDoor
open Go.RowKit

theorem put7_size (r : Int) : (put7 r).size ≤ 4 := by
  unfold put7
  split
  · exact encode_size_le r
  · decide
/-- What Mark's closure makes of a mended row. -/
def markL (M : List CC) (x : Nat) (r : Int) : List CC :=
  if ofZ r = 0 ∧ (Ac M x).r ≠ 0 ∧ (Ac M x).m.size + (put7 r).size ≤ 32 then
    (if (Ac M x).h = 1 then (M.set x (moreC (Ac M x) (put7 r))).set (x + 1) (halfC (moreC (Ac M x) (put7 r)) 2)
     else if (Ac M x).h = 2 then (M.set x (moreC (Ac M x) (put7 r))).set (x - 1) (halfC (moreC (Ac M x) (put7 r)) 1)
     else M.set x (moreC (Ac M x) (put7 r)))
  else M
theorem markL_len (M : List CC) (x : Nat) (r : Int) : (markL M x r).length = M.length := by
  unfold markL
  split
  · split
    · simp
    · split <;> simp
  · rfl
/-- What Mark makes of a row. -/
def markRow (l : List CC) (z r : Int) : List CC :=
  if 0 ≤ z ∧ z < (l.length : Int) then mendL (markL (mendL l) z.toNat r) else mendL l
theorem markFn_any (g n c x P1 P2 P3 : Nat) (l : List CC) (r : Int) (hn : n = l.length) (hl : n ≤ 1000) (hx : x < n) (w : World) (hT : WT w) (h : MC w g (mendL l)) (hp : MarkC w P1 P2 P3 x r (put7 r)) (hs : (Ac (mendL l) x).m.size ≤ 4611686018427387904) :
    Calls Tryd.prog 63 #[.slice (some ⟨g, 0, none⟩) n c, .pointer (some ⟨P1, 0, none⟩), .pointer (some ⟨P2, 0, none⟩), .pointer (some ⟨P3, 0, none⟩)] w fun e w' => e = .returned (.tuple #[]) ∧ MC w' g (markL (mendL l) x r) ∧ KG g w w' := by
  have hn' : n = (mendL l).length := by rw [mendL_len, hn]
  have h4 := put7_size r
  unfold markL
  by_cases h0 : ofZ r = 0
  · by_cases h1 : (Ac (mendL l) x).r = 0
    · rw [if_neg (fun hh => hh.2.1 h1)]
      exact markFn_r g n c x P1 P2 P3 _ r _ hn' hx w h0 h1 hT h hp
    · have h1' : ((Ac (mendL l) x).r == 0) = false := by simpa using h1
      by_cases h2 : (Ac (mendL l) x).m.size + (put7 r).size ≤ 32
      · rw [if_pos ⟨h0, h1, h2⟩]
        by_cases h3 : (Ac (mendL l) x).h = 1
        · rw [if_pos h3]
          exact markFn_a g n c x P1 P2 P3 _ r _ hn' hx w h0 h1' h2 h3 (by have := (mend_left l x (by omega) h3).1; omega) hl hT h hp
        · rw [if_neg h3]
          by_cases h5 : (Ac (mendL l) x).h = 2
          · rw [if_pos h5]
            obtain ⟨j, hj, _⟩ := mend_right l x (by omega) h5
            exact markFn_b g n c x P1 P2 P3 _ r _ hn' hx w h0 h1' h2 h5 (by omega) hl hT h hp
          · rw [if_neg h5]
            exact markFn_p g n c x P1 P2 P3 _ r _ hn' hx w h0 h1' h2 (by simpa using h3) (by simpa using h5) hT h hp
      · rw [if_neg (fun hh => h2 hh.2.2)]
        exact markFn_l g n c x P1 P2 P3 _ r _ hn' hx w h0 h1' (by omega) (by omega) hT h hp
  · rw [if_neg (fun hh => h0 hh.1)]
    exact markFn_w g n c x P1 P2 P3 _ r _ hn' hx w _ rfl (by simpa using h0) hT h hp
theorem mark_any (A : Option Addr) (l : List CC) (n c : Nat) (z r : Int) (hn : n = l.length) (hl : n ≤ 1000) (hs : ∀ x, x < l.length → (Ac (mendL l) x).m.size ≤ 4611686018427387904) (w : World) (hT : WT w) (h : RC w w.heap.size A l) :
    Calls Tryd.prog 36 #[.slice A n c, .int .i64 z, .int .i32 r] w fun e w' => ∃ v, e = .returned v ∧ OC w.heap.size w' v (markRow l z r) ∧ Below w.heap.size w w' := by
  refine mark_via A _ n c z r w fun W P1 P2 P3 hW h1 h2 h3 => ?_
  have hR := h.past hW
  unfold markRow
  by_cases hz : 0 ≤ z ∧ z < (l.length : Int)
  · rw [if_pos hz]
    obtain ⟨x, hx⟩ : ∃ x : Nat, z = x := ⟨z.toNat, by omega⟩
    subst hx
    have hxl : x < l.length := by omega
    rw [Int.toNat_natCast]
    have hp : MarkC W P1 P2 P3 x r (put7 r) := ⟨h1, h2, h3⟩
    exact atMark_in A l _ n c x P1 P2 P3 hn hl (by omega) (by rw [markL_len, mendL_len, hn]) W hR fun V g c' hV _ hm => markFn_any g n c' x P1 P2 P3 l r hn hl (by omega) V (hT.below (bel0 hW hV)) hm (hp.past hV) (hs x hxl)
  · rw [if_neg hz]
    exact atMark_out A l n c z _ hn hl (by omega) W hR
end Go.Proofs.YtoiekhjmfoodiaaDoor
