/- The walk of the law WidthClusters. -/
import Derived.Test.YtacmldggdacdpaaDoorWq
namespace Go.Proofs.YtacmldggdacdpaaDoor
open Go.RowKit Go.Shelf

theorem own_form {w : World} {base : Nat} {e : TypeId} {size : Nat} {v : Value} {k : Nat} {xs : List Value} (h : w.ownsRow base e size v k xs) :
    ∃ A c, v = .slice A k c ∧ (0 < k → ∃ g, A = some ⟨g, 0, none⟩) := by
  rcases h.2 with ⟨rfl, rfl⟩ | ⟨g, cap, cur, rfl, _⟩
  · exact ⟨none, 0, rfl, fun h => by omega⟩
  · exact ⟨_, cap, rfl, fun _ => ⟨g, rfl⟩⟩
/-- A row of the call's own reads as its numbers. -/
theorem RS.of_own {w : World} {base g c n : Nat} {xs : List Int} (h : w.ownsRow base 21 1 (.slice (some ⟨g, 0, none⟩) n c) n (xs.map (Value.int .i32))) : RS w w.heap.size (some ⟨g, 0, none⟩) xs := fun _ => by
  refine ⟨g, 0, rfl, (h.lt g rfl).2, fun k hk => ?_⟩
  have hl : xs.length = n := by have := h.1; simpa using this
  rw [Nat.zero_add, h.cellAt k (by omega), List.getElem?_map, List.getElem?_eq_getElem hk]
  rfl
theorem piece_len' (xs : List Int) (a b : Nat) (hb : b ≤ xs.length) : (piece xs (a, b)).length = b - a := by simp [piece]; omega
theorem RS.cut {w : World} {B b off : Nat} {xs : List Int} (h : RS w B (some ⟨b, off, none⟩) xs) (i j : Nat) : RS w B (some ⟨b, off + i, none⟩) (Go.Proofs.YtacmldggdacdpaaDoor.piece xs (i, j)) := fun hn => by
  have hx : xs ≠ [] := by rintro rfl; exact hn (by simp [Go.Proofs.YtacmldggdacdpaaDoor.piece])
  obtain ⟨b', off', e, hb, hc⟩ := h hx
  obtain ⟨rfl, rfl⟩ : b = b' ∧ off = off' := by simpa using e
  refine ⟨b, off + i, rfl, hb, fun k hk => ?_⟩
  have hk' : k < j - i ∧ i + k < xs.length := by simp [Go.Proofs.YtacmldggdacdpaaDoor.piece] at hk; omega
  have e : (Go.Proofs.YtacmldggdacdpaaDoor.piece xs (i, j))[k]? = xs[i + k]? := by
    simp only [Go.Proofs.YtacmldggdacdpaaDoor.piece, List.getElem?_take, List.getElem?_drop, if_pos hk'.1]
  rw [Nat.add_assoc, e]
  exact hc _ hk'.2
theorem sameB_self (xs : List Int) : sameB xs xs = true := decide_eq_true rfl

set_option maxHeartbeats 1000000 in
theorem widthClusters_law (A : Option Addr) (xs : List Int) (n c : Nat) (hn : n = xs.length) (hcap : n ≤ c) (hc63 : c ≤ 9223372036854775807) (w : World) (hT : WT w) (hR : RS w w.heap.size A xs) :
    Calls Tryd.prog 12 #[.slice A n c] w fun e w' => e = .returned (.bool true) ∧ Below w.heap.size w w' := by
  have h3 : Hid (∀ W, Below w.heap.size w W → Calls Tryd.prog 31 #[] W fun e w' => e = .returned (.bool true) ∧ Below W.heap.size W w') := Lib.hid fun W hW => awake_any W (hT.below hW)
  by_cases h200 : 200 < n
  · clear hn
    go_enter Tryd.func12, Tryd.ntmps12
    go_wp2_with (go_at_call 31; refine (h3.out _ (Below.refl _ _)).mono ?_; rintro e w3 ⟨rfl, hb3⟩)
    go_ret
    exact ⟨rfl, hb3⟩
  · have HK : Hid (∀ W, Below w.heap.size w W → Calls Tryd.prog 34 #[.slice A n c] W (ClPost xs W)) := Lib.hid fun W hW => clustersFn_any A xs n c hn (by omega) hcap hc63 W (hT.below hW) ((hR.below hW).more hW.size)
    have HC : Hid (∀ W, Below w.heap.size w W → Calls Tryd.prog 35 #[.slice A n c] W (RcPost xs W)) := Lib.hid fun W hW => refClusters_any A xs n c hn (by omega) W ((hR.below hW).more hW.size)
    have HN := Lib.hid hn
    have HR := Lib.hid hR
    have HL := Lib.hid (stL_len xs)
    have hpl : (pairs xs).length ≤ 200 := by
      have h2 := stK_len xs xs.length
      have h1 := stL_len xs
      unfold stL at h1
      simp at h1
      omega
    clear hT hR hn
    go_enter Tryd.func12, Tryd.ntmps12
    go_wp2_with (first | (go_at_call 31; refine (h3.out _ (Below.refl _ _)).mono ?_; rintro e w1 ⟨rfl, hb1⟩) | (go_at_call 34; refine (HK.out _ hb1).mono ?_; rintro e w2 ⟨v, vs, rfl, ho, hcp, hb2⟩; obtain ⟨Ag, cg, rfl, hAg⟩ := own_form ho; have HO := Lib.hid ho; have HCP := Lib.hid hcp; have HAG := Lib.hid hAg; have hb12 := hb1.trans (hb2.mono hb1.size); clear ho hcp hAg) | (go_at_call 35; refine (HC.out _ hb12).mono ?_; rintro e w3 ⟨v2, rfl, ho2, hb3⟩; obtain ⟨g2, cc, rfl⟩ := ownsRow_succ' (by rw [stL_len]; omega) ho2; rw [HL.out]; have HO2 := Lib.hid ho2; clear ho2))
    have HB3 := Lib.hid (hb12.trans (hb3.mono hb12.size))
    have HO1 := Lib.hid (ownsRow_below' HO.out hb3)
    have HCP3 := Lib.hid (HCP.out.kept (grown_of_below hb3) (fun _ e => by cases e))
    have hg2 : g2 < w3.heap.size := (HO2.out.lt g2 rfl).2
    have HLT : Hid (∀ g, Ag = some ⟨g, 0, none⟩ → g < w3.heap.size) := Lib.hid fun g e => (HO1.out.lt g (by rw [e]; rfl)).2
    clear hb1 hb2 hb12 hb3 HO HCP
    generalize hpn : (pairs xs).length = pn at *
    have HPN := Lib.hid hpn
    clear hpn
    go_loopw [5] (fun i wr => ∃ k : Nat, k ≤ pn ∧ i = .int .i64 k ∧ Hid (Below w3.heap.size w3 wr)) (fun i _ => pn - (intOf i).toNat)
    case atStart => exact ⟨0, Nat.zero_le _, rfl, Lib.hid (Below.refl _ _)⟩
    case round =>
      obtain ⟨k, hk, rfl, hB⟩ := hrel
      by_cases hlt : k < pn
      · obtain ⟨g, e⟩ := HAG.out (by omega)
        subst e
        have hgl := HLT.out g rfl
        obtain ⟨hab, hbn⟩ := sAt_lt xs k (by rw [HPN.out]; exact hlt)
        obtain ⟨u, hu, hou⟩ := HCP3.out.2 k _ (pairs_at xs k (by rw [HPN.out]; exact hlt))
        obtain ⟨bu, cu, rfl⟩ := ownsRow_succ' (by omega) hou
        obtain ⟨b, off, e, hb, hc⟩ := HR.out (fun e => by have := congrArg List.length e; simp only [List.length_nil] at this; omega)
        subst e
        have hgot : wr.cell? ⟨g, k, none⟩ = some (.slice (some ⟨bu, 0, none⟩) (sAt xs (k + 1) - sAt xs k) cu) := (hB.out.cell (p := ⟨g, k, none⟩) hgl).trans ((HO1.out.cellAt k (show k < pn * 1 by omega)).trans hu)
        have hst : ∀ i, i < pn + 1 → wr.cell? ⟨g2, i, none⟩ = some (.int .i64 (sAt xs i)) := fun i hi => (hB.out.cell (p := ⟨g2, i, none⟩) hg2).trans (stL_cell HO2.out i (by have := HL.out; omega))
        have hw0 := hst k (by omega)
        have hw1 := hst (k + 1) (by omega)
        have hsame := fun W (hW : Below wr.heap.size wr W) => same_any (some ⟨bu, 0, none⟩) (some ⟨b, off + sAt xs k, none⟩) (piece xs (sAt xs k, sAt xs (k + 1))) (piece xs (sAt xs k, sAt xs (k + 1))) (sAt xs (k + 1) - sAt xs k) (sAt xs (k + 1) - sAt xs k) cu (c - sAt xs k)
          (piece_len' xs _ _ hbn).symm (piece_len' xs _ _ hbn).symm (by have := HN.out; omega) W ((((RS.of_own hou).below hB.out).below (hW.mono hB.out.size)).more (Nat.le_trans hB.out.size hW.size))
          ((RS.below (RS.below (RS.cut HR.out (sAt xs k) (sAt xs (k + 1))) HB3.out) ((hB.out.trans (hW.mono hB.out.size)).mono HB3.out.size)).more (Nat.le_trans HB3.out.size (Nat.le_trans hB.out.size hW.size)))
        rw [sameB_self] at hsame
        have HS := Lib.hid hsame
        have hbn' : sAt xs (k + 1) ≤ n := by have := HN.out; omega
        clear hst hu hou hc hsame hbn hb
        generalize sAt xs (k + 1) = sb at *
        generalize sAt xs k = sa at *
        go_wp2
        have t1 : IntKind.i64.wrap ((k : Int) + 1) = (k : Int) + 1 := IntWalk.i64_in _ (by omega)
        have t2 : ((k : Int) + 1).toNat = k + 1 := by omega
        have t3 : (0 : Int) ≤ (k : Int) + 1 := by omega
        have t0 : (k : Int) < (pn : Int) + 1 := by omega
        have t4 : (k : Int) < pn := by omega
        have t5 : (k : Int) + 1 < (pn + 1 : Nat) := by omega
        have t6 : (sa : Int) ≤ sb := by omega
        have t7 : (sb : Int) ≤ c := by omega
        go_still_tail 15, (by kernel_rfl)
        change wpList _ _ _ _ _ wr.drew
        clear t0 t1 t2 t3 t4 t5 t6 t7 hw0 hw1 hgot
        have hBd : Hid (Below w3.heap.size w3 wr.drew) := Lib.hid hB.out.drew
        have hs := HS.out wr.drew (Below.refl _ _).drew
        clear HS hB
        generalize wr.drew = w4 at *
        go_wp2_with (go_at_call 16; refine hs.mono ?_; clear hs; rintro e w5 ⟨rfl, hb5⟩; have HB5 : Hid (Below w3.heap.size w3 w5) := Lib.hid (hBd.out.trans (hb5.mono hBd.out.size)); clear hb5)
        go_roundw
        case rel => exact ⟨k + 1, hlt, by go_num, HB5⟩
        case measure => simp [intOf]; omega
      · obtain rfl : k = pn := by omega
        go_wp2
        go_ret
        exact ⟨rfl, HB3.out.trans (hB.out.mono HB3.out.size)⟩

end Go.Proofs.YtacmldggdacdpaaDoor
