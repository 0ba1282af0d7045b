/- Plain facts for the law WidthGreedy, and its walk. -/
import Derived.Test.YtacmldggdacdpaaDoorWs
import Derived.Deep.RegionHeld3
namespace Go.Proofs.YtacmldggdacdpaaDoor
open Go.RowKit Go.Shelf

def begAt (xs : List Int) (i : Nat) : Bool := begB (xs[i - 1]?.getD 0) (xs[i]?.getD 0)
theorem cl_gap (xs : List Int) (k : Nat) : (∀ x ∈ (cl xs k).1, (∀ i, x.1 < i → i < x.2 → begAt xs i = false) ∧ begAt xs x.2 = true) ∧ (∀ i, (cl xs k).2 < i → i < k → begAt xs i = false) := by
  induction k with
  | zero => exact ⟨by simp [cl], fun i _ h => by omega⟩
  | succ k ih =>
    rw [cl]
    split
    · rename_i h
      refine ⟨fun x hx => ?_, fun i h1 h2 => by have : k < i := h1; omega⟩
      rcases List.mem_append.1 hx with hx | hx
      · exact ih.1 x hx
      · obtain rfl : x = ((cl xs k).2, k) := by simpa using hx
        exact ⟨ih.2, h.2⟩
    · rename_i h
      refine ⟨ih.1, fun i h1 h2 => ?_⟩
      rcases Nat.lt_or_ge i k with hlt | hge
      · exact ih.2 i h1 hlt
      · obtain rfl : i = k := by omega
        cases hb : begAt xs i with
        | false => rfl
        | true => exact absurd ⟨by omega, hb⟩ h
theorem pairs_gap (xs : List Int) : ∀ x ∈ pairs xs, (∀ i, x.1 < i → i < x.2 → begAt xs i = false) ∧ (x.2 = xs.length ∨ begAt xs x.2 = true) := by
  unfold pairs
  split
  · simp
  · have hc := cl_gap xs xs.length
    intro x hx
    rcases List.mem_append.1 hx with hx | hx
    · exact ⟨(hc.1 x hx).1, .inr (hc.1 x hx).2⟩
    · obtain rfl : x = ((cl xs xs.length).2, xs.length) := by simpa using hx
      exact ⟨hc.2, .inl rfl⟩
theorem pairs_pos (xs : List Int) (h : 0 < xs.length) : 0 < (pairs xs).length := by
  unfold pairs; rw [if_neg (by omega)]; simp
theorem begAt_drop (xs : List Int) (N i : Nat) (hi : 0 < i) : begAt (xs.drop N) i = begAt xs (N + i) := by
  unfold begAt
  rw [List.getElem?_drop, List.getElem?_drop, show N + i - 1 = N + (i - 1) by omega]
/-- The first cluster of what is left is the next one of all. -/
theorem next_pair (xs : List Int) (j : Nat) (hj : j < (pairs xs).length) : (pairs (xs.drop (sAt xs j)))[0]? = some (0, sAt xs (j + 1) - sAt xs j) := by
  obtain ⟨h1, h2⟩ := sAt_lt xs j hj
  obtain ⟨hg, he⟩ := pairs_gap xs _ (List.mem_of_getElem? (pairs_at xs j hj))
  have hl : (xs.drop (sAt xs j)).length = xs.length - sAt xs j := List.length_drop
  have hp := pairs_pos (xs.drop (sAt xs j)) (by omega)
  have h0 := pairs_at (xs.drop (sAt xs j)) 0 hp
  have hm := List.mem_of_getElem? h0
  obtain ⟨hg', he'⟩ := pairs_gap _ _ hm
  obtain ⟨ha, hb⟩ := pairs_all _ _ hm
  rw [h0]
  rw [sAt_zero] at *
  simp only at hg he hg' he' ha hb
  generalize hd : sAt (xs.drop (sAt xs j)) (0 + 1) = e at *
  generalize sAt xs (j + 1) = b at *
  have hle : ¬ e < b - sAt xs j := fun hlt => by
    rcases he' with he' | he'
    · omega
    · rw [begAt_drop xs _ _ ha] at he'
      rw [hg _ (by omega) (by omega)] at he'
      cases he'
  have hge : ¬ b - sAt xs j < e := fun hlt => by
    have := hg' (b - sAt xs j) (by omega) hlt
    rw [begAt_drop xs _ _ (by omega), show sAt xs j + (b - sAt xs j) = b by omega] at this
    rcases he with he | he
    · omega
    · rw [he] at this; cases this
  rw [show e = b - sAt xs j by omega]
theorem greedy {cols : Int} {xs : List Int} {N : Nat} (h : FitIs cols xs N) (hc : 0 ≤ cols) : N ≤ xs.length ∧ textZ (xs.take N) ≤ cols ∧
    (N < xs.length → ∃ e, (pairs (xs.drop N))[0]? = some (0, e) ∧ cols < textZ (xs.take N) + textZ (piece (xs.drop N) (0, e))) := by
  obtain ⟨j, hb⟩ := best_ex cols hc xs
  have hN := fit_best h hb
  subst hN
  refine ⟨sAt_le xs j, hb.2.1 j (Nat.le_refl _), fun hlt => ?_⟩
  have hj : j < (pairs xs).length := by
    rcases Nat.lt_or_ge j (pairs xs).length with h1 | h1
    · exact h1
    · have : j = (pairs xs).length := Nat.le_antisymm hb.1 h1
      rw [this, sAt_last] at hlt
      omega
  refine ⟨_, next_pair xs j hj, ?_⟩
  have h1 := hb.2.2 (j + 1) (by omega) hj
  rw [tAt_succ xs j hj] at h1
  have e : piece (xs.drop (sAt xs j)) (0, sAt xs (j + 1) - sAt xs j) = piece xs (sAt xs j, sAt xs (j + 1)) := by simp [piece]
  rw [e]
  exact h1

theorem RS.drop {w : World} {B b off : Nat} {xs : List Int} (h : RS w B (some ⟨b, off, none⟩) xs) (i : Nat) : RS w B (some ⟨b, off + i, none⟩) (xs.drop i) := fun hn => by
  have hx : xs ≠ [] := by rintro rfl; exact hn (by simp)
  obtain ⟨b', off', e, hb, hc⟩ := h hx
  obtain ⟨rfl, rfl⟩ : b = b' ∧ off = off' := by simpa using e
  refine ⟨b, off + i, rfl, hb, fun k hk => ?_⟩
  have hk' : i + k < xs.length := by simp at hk; omega
  rw [Nat.add_assoc, List.getElem?_drop]
  exact hc _ hk'

theorem lt_of_cell' {w : World} {b o : Nat} {v : Value} (h : w.cell? ⟨b, o, none⟩ = some v) : b < w.heap.size := by
  rcases Nat.lt_or_ge b w.heap.size with hl | hl
  · exact hl
  · simp [World.cell?, Array.getElem?_eq_none hl] at h
theorem held_next {w5 W W' : World} {gr : Nat} {v : Value} (hg : gr < w5.heap.size) (h : W.cell? ⟨gr, 0, none⟩ = some v) (hb : Below w5.heap.size w5 W) (hb' : Below W.heap.size W W') : W'.cell? ⟨gr, 0, none⟩ = some v ∧ Below w5.heap.size w5 W' :=
  ⟨(hb'.cell (p := ⟨gr, 0, none⟩) (Nat.lt_of_lt_of_le hg hb.size)).trans h, hb.trans (hb'.mono hb.size)⟩
theorem held_next2 {w5 W W' : World} {gr : Nat} {v : Value} (hg : gr < w5.heap.size) (h : W.cell? ⟨gr, 0, none⟩ = some v ∧ Below w5.heap.size w5 W) (hb' : Below W.heap.size W W') : W'.cell? ⟨gr, 0, none⟩ = some v ∧ Below w5.heap.size w5 W' :=
  held_next hg h.1 h.2 hb'
theorem held_end {w5 W : World} {gr : Nat} {v : Value} (h : W.cell? ⟨gr, 0, none⟩ = some v ∧ Below w5.heap.size w5 W) : Below w5.heap.size w5 W := h.2

set_option maxHeartbeats 1000000 in
theorem widthGreedy_law (cols : Int) (A : Option Addr) (xs : List Int) (n c : Nat) (hn : n = xs.length) (hcap : n ≤ c) (hc63 : c ≤ 9223372036854775807) (w : World) (hT : WT w) (hR : RS w w.heap.size A xs) :
    Calls Tryd.prog 14 #[.int .i64 cols, .slice A n c] w fun e w' => e = .returned (.bool true) ∧ Below w.heap.size w w' := by
  have h3 : Hid (∀ W, Below w.heap.size w W → Calls Tryd.prog 31 #[] W fun e w' => e = .returned (.bool true) ∧ Below W.heap.size W w') := Lib.hid fun W hW => awake_any W (hT.below hW)
  by_cases h200 : 200 < n
  · clear hn
    go_enter Tryd.func14, Tryd.ntmps14
    go_wp2_with (go_at_call 31; refine (h3.out _ (Below.refl _ _)).mono ?_; rintro e w3 ⟨rfl, hb3⟩)
    go_ret
    exact ⟨rfl, hb3⟩
  · by_cases hcols : 0 ≤ cols
    · have HF : Hid (∀ W, Below w.heap.size w W → Calls Tryd.prog 36 #[.int .i64 cols, .slice A n c] W (FitPost cols xs W)) := Lib.hid fun W hW => fit_any cols A xs n c hn (by omega) hcap hc63 W (hT.below hW) ((hR.below hW).more hW.size)
      have HX : Hid (∀ W m, m ≤ n → Below w.heap.size w W → Calls Tryd.prog 32 #[.slice A m c] W fun e w' => e = .returned (.int .i64 (textZ (xs.take m))) ∧ Below W.heap.size W w') := Lib.hid fun W m hm hW =>
        text_any A (xs.take m) m c (by simp; omega) (by omega) W (hT.below hW) (((hR.take m).below hW).more hW.size)
      have HN := Lib.hid hn
      have HR := Lib.hid hR
      have HT := Lib.hid hT
      clear hT hR hn
      go_enter Tryd.func14, Tryd.ntmps14
      go_wp2_with (first | (go_at_call 31; refine (h3.out _ (Below.refl _ _)).mono ?_; rintro e w1 ⟨rfl, hb1⟩) | (go_at_call 36; fail))
      refine (HF.out _ hb1).mono ?_
      rintro e w2 ⟨N, rfl, hF, hb2⟩
      obtain ⟨hNn, hNt, hNx⟩ := greedy hF hcols
      have HB2 := Lib.hid (hb1.trans (hb2.mono hb1.size))
      have hNn' : N ≤ n := by have := HN.out; omega
      have HXN := Lib.hid (HX.out w2 N hNn' HB2.out)
      have HNX := Lib.hid hNx
      obtain ⟨hz0, hz1⟩ := textZ_take xs N
      clear hF hb1 hb2 hNn hNx
      by_cases hNe : N = n
      · obtain rfl : N = n := hNe
        have HK : Hid (∀ W A' c', c' ≤ 9223372036854775807 → Below w.heap.size w W → Calls Tryd.prog 34 #[.slice A' 0 c'] W (ClPost [] W)) := Lib.hid fun W A' c' hc hW => clustersFn_any A' [] 0 c' rfl (by omega) (by omega) hc W (HT.out.below hW) (fun h => absurd rfl h)
        generalize textZ (xs.take N) = z at *
        by_cases hcN : c = N
        · subst hcN
          go_wp2_with (first | (go_at_call 32; refine HXN.out.mono ?_; clear HXN; rintro e w4 ⟨rfl, hb4⟩; have HB4 := Lib.hid (HB2.out.trans (hb4.mono HB2.out.size)); clear hb4) | (go_at_call 34; refine (HK.out _ _ _ (by omega) HB4.out).mono ?_; rintro e w5 ⟨v, vs, rfl, ho, _, hb5⟩; obtain ⟨Ag, cg, rfl, _⟩ := own_form ho; have HB5 := Lib.hid (HB4.out.trans (hb5.mono HB4.out.size)); clear ho hb5))
          go_quiet (fail)
          go_wp2
          go_ret
          exact ⟨rfl, below_drewN HB5.out _⟩
        · have hNc : ¬ N = c := fun e => hcN e.symm
          go_wp2_with (first | (go_at_call 32; refine HXN.out.mono ?_; clear HXN; rintro e w4 ⟨rfl, hb4⟩; have HB4 := Lib.hid (HB2.out.trans (hb4.mono HB2.out.size)); clear hb4) | (go_at_call 34; refine (HK.out _ _ _ (by omega) HB4.out).mono ?_; rintro e w5 ⟨v, vs, rfl, ho, _, hb5⟩; obtain ⟨Ag, cg, rfl, _⟩ := own_form ho; have HB5 := Lib.hid (HB4.out.trans (hb5.mono HB4.out.size)); clear ho hb5))
          go_quiet (fail)
          go_wp2
          go_ret
          exact ⟨rfl, below_drewN HB5.out _⟩
      · have hNl : N < n := by omega
        obtain ⟨e, hp, hlt⟩ := HNX.out (by have := HN.out; omega)
        obtain ⟨b, off, eA, _, _⟩ := HR.out (fun e => by have := congrArg List.length e; have := HN.out; simp only [List.length_nil] at *; omega)
        subst eA
        have hcN : ¬ c = N := by omega
        have hNc : ¬ N = c := by omega
        have HK : Hid (∀ W, Below w.heap.size w W → Calls Tryd.prog 34 #[.slice (some ⟨b, off + N, none⟩) (n - N) (c - N)] W (ClPost (xs.drop N) W)) := Lib.hid fun W hW =>
          clustersFn_any _ (xs.drop N) (n - N) (c - N) (by simp; have := HN.out; omega) (by omega) (by omega) (by omega) W (HT.out.below hW) (((HR.out.drop N).below hW).more hW.size)
        obtain ⟨he, hel⟩ := pairs_all _ _ (List.mem_of_getElem? hp)
        have hel' : e ≤ 200 := by
          have h1 : (xs.drop N).length = xs.length - N := List.length_drop
          have h2 := HN.out
          omega
        have hu0 := textZ_bd (piece (xs.drop N) (0, e))
        have hul := piece_len' (xs.drop N) 0 e hel
        rw [hul] at hu0
        have HP := Lib.hid hp
        have HUL := Lib.hid hul
        have hpp : 0 < (pairs (xs.drop N)).length := by
          rcases Nat.eq_zero_or_pos (pairs (xs.drop N)).length with h0 | h0
          · rw [List.eq_nil_of_length_eq_zero h0] at hp; cases hp
          · exact h0
        have hpl : (pairs (xs.drop N)).length ≤ 200 := by
          have h2 := stK_len (xs.drop N) (xs.drop N).length
          have h1 := stL_len (xs.drop N)
          have h0 : (xs.drop N).length = xs.length - N := List.length_drop
          unfold stL at h1
          have := HN.out
          simp only [List.length_append, List.length_cons, List.length_nil] at h1
          omega
        have HX2 : Hid (∀ W, Below w.heap.size w W → Calls Tryd.prog 32 #[.slice (some ⟨b, off, none⟩) N c] W fun e w' => e = .returned (.int .i64 (textZ (xs.take N))) ∧ Below W.heap.size W w') := Lib.hid fun W hW => HX.out W N hNn' hW
        clear hp hel hul
        generalize textZ (xs.take N) = z at *
        go_wp2_with (first | (go_at_call 32; refine HXN.out.mono ?_; clear HXN; rintro e w4 ⟨rfl, hb4⟩; have HB4 := Lib.hid (HB2.out.trans (hb4.mono HB2.out.size)); clear hb4) | (go_at_call 34; fail))
        refine (HK.out _ HB4.out).mono ?_
        rintro e5 w5 ⟨v, vs, rfl, ho, hcp, hb5⟩
        obtain ⟨gr, cr, rfl⟩ := ownsRow_succ' hpp ho
        obtain ⟨u, hu, hou⟩ := hcp.2 0 _ HP.out
        obtain ⟨bu, cu, rfl⟩ := ownsRow_succ' (show 0 < e - 0 by have he' : 0 < e := he; omega) hou
        have HB5 := Lib.hid (HB4.out.trans (hb5.mono HB4.out.size))
        have hcu : ∀ W, Below w5.heap.size w5 W → W.cell? ⟨gr, 0, none⟩ = some (.slice (some ⟨bu, 0, none⟩) e cu) := fun W hW => (hW.cell (p := ⟨gr, 0, none⟩) (ho.lt gr rfl).2).trans ((ho.cellAt 0 (by omega)).trans hu)
        have HU : Hid (∀ W, Below w5.heap.size w5 W → Calls Tryd.prog 32 #[.slice (some ⟨bu, 0, none⟩) e cu] W fun e' w' => e' = .returned (.int .i64 (textZ (piece (xs.drop N) (0, e)))) ∧ Below W.heap.size W w') := Lib.hid fun W hW =>
          text_any _ _ _ _ HUL.out.symm (by omega) W ((HT.out.below HB5.out).below hW) (((RS.of_own hou).below hW).more hW.size)
        have hc5 := hcu _ (Below.refl _ _)
        have HCU := Lib.hid hcu
        clear ho hcp hb5 hu hou hcu
        generalize textZ (piece (xs.drop N) (0, e)) = z2 at *
        generalize (pairs (xs.drop N)).length = pl at *
        have hnb : ((N : Int) == n) = false := by simp; omega
        have hpl0 : (0 : Int) < pl := by omega
        have HX5 : Hid (∀ W, Below w5.heap.size w5 W → Calls Tryd.prog 32 #[.slice (some ⟨b, off, none⟩) N c] W fun e w' => e = .returned (.int .i64 z) ∧ Below W.heap.size W w') := Lib.hid fun W hW => HX2.out W (HB5.out.trans (hW.mono HB5.out.size))
        have hr5 := Below.refl w5.heap.size w5
        have hr5d := hr5.drew
        have hgr : gr < w5.heap.size := lt_of_cell' hc5
        have hwz : IntKind.i64.wrap (z + z2) = z + z2 := IntWalk.i64_in _ (by omega)
        go_wp2
        go_region_held3 (fun W => W.cell? ⟨gr, 0, none⟩ = some (.slice (some ⟨bu, 0, none⟩) e cu) ∧ Below w5.heap.size w5 W)
          (first | exact ⟨hc5, hr5.drew⟩ | exact held_next hgr hc5 hr5d hb6 | exact held_next2 hgr (by assumption) hb6)
          (first
            | (go_at_call 32; (with_reducible refine (HX5.out _ ?_).mono ?_); (first | assumption | exact hr5d.trans (show Below w5.heap.size _ _ from hb6)); rintro e6 w6 ⟨rfl, hb6⟩)
            | (go_at_call 32; (with_reducible refine (HU.out _ ?_).mono ?_); (first | assumption | exact hr5d.trans (show Below w5.heap.size _ _ from hb6)); rintro e6 w6 ⟨rfl, hb6⟩))
        go_wp2
        go_ret
        exact ⟨rfl, HB5.out.trans ((held_end (gr := gr) (v := .slice (some ⟨bu, 0, none⟩) e cu) (by assumption)).mono HB5.out.size)⟩
    · go_enter Tryd.func14, Tryd.ntmps14
      go_wp2_with (go_at_call 31; refine (h3.out _ (Below.refl _ _)).mono ?_; rintro e w3 ⟨rfl, hb3⟩)
      go_ret
      exact ⟨rfl, hb3⟩

end Go.Proofs.YtacmldggdacdpaaDoor
