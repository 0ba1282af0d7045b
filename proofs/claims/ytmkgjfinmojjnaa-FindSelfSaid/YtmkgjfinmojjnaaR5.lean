/- The law FindLonger. -/
import Derived.Test.YtmkgjfinmojjnaaR4
namespace Go.Proofs.Ytmkgjfinmojjnaa
open Go.RowKit

theorem pw_split (k : Nat) : ∀ L : List Nat, L.Pairwise (· < ·) → L = L.filter (fun p => decide (p < k)) ++ L.filter (fun p => decide (k ≤ p))
  | [], _ => rfl
  | x :: t, h => by
    obtain ⟨h1, h2⟩ := List.pairwise_cons.1 h
    have ih := pw_split k t h2
    by_cases hx : x < k
    · rw [List.filter_cons_of_pos (by simpa using hx), List.filter_cons_of_neg (by simpa using hx), List.cons_append, ← ih]
    · have h3 : t.filter (fun p => decide (p < k)) = [] := by
        rw [List.filter_eq_nil_iff]
        intro a ha
        have := h1 a ha
        simp
        omega
      have h4 : t.filter (fun p => decide (k ≤ p)) = t := List.filter_eq_self.2 fun a ha => by
        have := h1 a ha
        simp
        omega
      rw [List.filter_cons_of_neg (by simpa using hx), List.filter_cons_of_pos (by simp; omega), h3, h4]
      rfl
/-- A text's places among a longer one's. -/
theorem longer (H T N : List UInt8) : ∃ d, (pls idL (H ++ T) N).length = d + (pls idL T N).length ∧ (∀ i, i < (pls idL T N).length → (pls idL (H ++ T) N)[d + i]?.getD 0 = (pls idL T N)[i]?.getD 0 + H.length) ∧ (0 < d → (pls idL (H ++ T) N)[d - 1]?.getD 0 < H.length) := by
  have h1 := drop_pls idL (H ++ T) N H.length (by simp)
  rw [List.drop_left] at h1
  have h2 := pw_split H.length _ (pls_pw idL (H ++ T) N)
  rw [h1] at h2
  generalize hp : (pls idL (H ++ T) N).filter (fun p => decide (p < H.length)) = pre at h2
  have hpre : ∀ p ∈ pre, p < H.length := fun p hm => by
    rw [← hp] at hm
    simpa using (List.mem_filter.1 hm).2
  refine ⟨pre.length, ?_, fun i hi => ?_, fun hd => ?_⟩
  · rw [h2, List.length_append, List.length_map]
  · rw [h2, List.getElem?_append_right (by omega), show pre.length + i - pre.length = i by omega, List.getElem?_map, List.getElem?_eq_getElem hi]
    simp
    omega
  · rw [h2, List.getElem?_append_left (by omega), List.getElem?_eq_getElem (by omega)]
    exact hpre _ (List.getElem_mem _)
set_option maxRecDepth 100000 in
set_option maxHeartbeats 8000000 in
theorem findLonger_law (H T N : List UInt8) (w : World) : Calls Try.prog 6 #[.string (bsB H), .string (bsB T), .string (bsB N)] w fun e w' => e = .returned (.bool true) ∧ Below w.heap.size w w' := by
  have HAW := Lib.hid awake_any
  have hsH : ((bsB H).size : Int) = H.length := by rw [bsB_size]
  have hsT : ((bsB T).size : Int) = T.length := by rw [bsB_size]
  have hsN : ((bsB N).size : Int) = N.length := by rw [bsB_size]
  by_cases hH : H.length ≤ 100
  · have hHi : ¬ ((100 : Int) < H.length) := by omega
    by_cases hT : T.length ≤ 200
    · have hTi : ¬ ((200 : Int) < T.length) := by omega
      by_cases hN : N.length ≤ 100
      · have hNi : ¬ ((100 : Int) < N.length) := by omega
        have hl0 := plU_len idL T N
        have hl1 := plU_len idL (H ++ T) N
        rw [List.length_append] at hl1
        obtain ⟨d, hd, HD1, HD2⟩ := longer H T N
        have HP0 : Hid (∀ W, Calls Try.prog 11 #[.string (bsB T), .string (bsB N)] W fun e w' => ∃ A c, e = .returned (.slice A (pls idL T N).length c) ∧ RI w' w'.heap.size A (zsN (pls idL T N)) ∧ Below W.heap.size W w') := Lib.hid fun W => (all_any T N (by omega) (by omega) W).mono fun e w' ⟨A, c, he, ho, hb⟩ => ⟨A, c, he, ri_of ho, hb⟩
        have HP1 : Hid (∀ W, Calls Try.prog 11 #[.string (bsB H ++ bsB T), .string (bsB N)] W fun e w' => ∃ A c, e = .returned (.slice A (d + (pls idL T N).length) c) ∧ RI w' w'.heap.size A (zsN (pls idL (H ++ T) N)) ∧ Below W.heap.size W w') := Lib.hid fun W => by
          rw [bsB_app, ← hd]
          exact (all_any (H ++ T) N (by rw [List.length_append]; omega) (by omega) W).mono fun e w' ⟨A, c, he, ho, hb⟩ => ⟨A, c, he, ri_of ho, hb⟩
        have hcat : (bsB H ++ bsB T).size = H.length + T.length := by rw [bsB_app, bsB_size, List.length_append]
        have HS1 := Lib.hid HD1
        have HS2 := Lib.hid HD2
        have HLL : Hid (∀ i : Nat, (pls idL T N)[i]?.getD 0 ≤ 200) := Lib.hid fun k => by
          cases h : (pls idL T N)[k]? with
          | none => exact Nat.zero_le _
          | some x => exact Nat.le_trans (pls_le idL T N x (List.mem_of_getElem? h)) hT
        clear HD1 HD2
        generalize pls idL (H ++ T) N = pa at *
        generalize pls idL T N = pl at *
        rw [hd] at hl1
        obtain ⟨n0, hn0⟩ : ∃ n0, n0 = pl.length := ⟨_, rfl⟩
        obtain ⟨n1, hn1⟩ : ∃ n1, n1 = d + pl.length := ⟨_, rfl⟩
        rw [← hn1] at HP1 hl1 hd
        rw [← hn0] at HP0 hl0 hn1 HS1
        have HLN := Lib.hid hn0
        have HLM := Lib.hid hd
        have hdn : (n0 : Int) ≤ n1 := by omega
        have hw0 : IntKind.i64.wrap ((n1 : Int) - n0) = d := by rw [IntKind.wrap_i64]; omega
        clear hT hN hn0 hd
        generalize hbH : bsB H = sH at *
        generalize bsB T = sT at *
        generalize bsB N = sN at *
        clear hbH
        go_enter Try.func6, Try.ntmps6
        go_wp2_with (first
          | (go_at_call 11; (with_reducible refine (HP1.out w).mono ?_); rintro e w1 ⟨A1, c1, rfl, hr1, hb1⟩; have HX1 := Lib.hid hr1; have HB1 := Lib.hid hb1; clear hr1 hb1 HP1)
          | (go_at_call 11; (with_reducible refine (HP0.out w1).mono ?_); rintro e w2 ⟨A2, c2, rfl, hr2, hb2⟩; have HX2 := Lib.hid hr2; have HX1' := Lib.hid (HX1.out.past hb2); have HB2 := Lib.hid (bel0 HB1.out hb2); clear hr2 hb2 HP0 HX1))
        go_loopw [9] (fun v9 wr => ∃ k : Nat, v9 = .int .i64 k ∧ k ≤ n0 ∧ Hid (Below w2.heap.size w2 wr)) (fun v9 _ => n0 - (intOf v9).toNat)
        case atStart => exact ⟨0, by go_num, Nat.zero_le _, Lib.hid (Below.refl _ _)⟩
        case round =>
          obtain ⟨k, rfl, hk, HB⟩ := hrel
          by_cases hlt : k < n0
          · have hki : (k : Int) < n0 := by omega
            obtain ⟨e, he⟩ : ∃ e, e = d + k := ⟨_, rfl⟩
            have hw1 : IntKind.i64.wrap ((d : Int) + k) = e := by rw [IntKind.wrap_i64]; omega
            have hei : (e : Int) < n1 := by omega
            obtain ⟨b, off, rfl, hblt, hc⟩ := HX1'.out (fun e => by have h1 := congrArg List.length e; rw [zsN_len] at h1; have h2 : pa.length = 0 := h1; have := HLM.out; omega)
            have hce := hc e (by rw [zsN_len, HLM.out]; omega)
            obtain ⟨b', off', rfl, hblt', hc'⟩ := HX2.out (fun e => by have h1 := congrArg List.length e; rw [zsN_len] at h1; have h2 : pl.length = 0 := h1; have := HLN.out; omega)
            have hck := hc' k (by rw [zsN_len, ← HLN.out]; exact hlt)
            rw [zsN_at] at hck hce
            rw [he, HS1.out k hlt, ← he] at hce
            have hce2 : wr.cell? ⟨b, off + e, none⟩ = some (.int .i64 ((pl[k]?.getD 0 + H.length : Nat) : Int)) := (HB.out.cell (p := ⟨b, off + e, none⟩) hblt).trans hce
            have hck2 : wr.cell? ⟨b', off' + k, none⟩ = some (.int .i64 (pl[k]?.getD 0 : Nat)) := (HB.out.cell (p := ⟨b', off' + k, none⟩) hblt').trans hck
            have hxl := HLL.out k
            have HBN := Lib.hid (fun n => bel0 HB.out (belN' wr n))
            clear hc hc' hblt hblt' hce hck he HB
            generalize pl[k]?.getD 0 = x at *
            have hw2 : IntKind.i64.wrap ((x : Int) + H.length) = ((x + H.length : Nat) : Int) := by rw [IntKind.wrap_i64]; omega
            obtain ⟨y, hy⟩ : ∃ y, y = x + H.length := ⟨_, rfl⟩
            rw [← hy] at hw2 hce2
            clear hy
            go_wp2_with fail
            go_quiet (fail)
            have HB2' := Lib.hid (HBN.out nq)
            clear HBN hce2 hck2
            generalize wr.drewN nq = wq at *
            go_wp2
            go_roundw
            case rel => exact ⟨k + 1, by go_num, hlt, HB2'⟩
            case measure => simp [intOf]; omega
          · obtain rfl : k = n0 := by omega
            have HBB := Lib.hid (bel0 HB2.out HB.out)
            by_cases hd0 : d = 0
            · have hnn : (n1 : Int) = k := by omega
              have hnb : ((n1 : Int) == k) = true := by simp; omega
              clear hnn hw0 hdn
              go_wp2_with (go_at_call 8; (with_reducible refine (HAW.out wr).mono ?_); rintro e w8 ⟨rfl, hb8⟩; have HB8 := Lib.hid (bel0 HBB.out hb8); clear hb8)
              go_ret
              exact ⟨rfl, HB8.out⟩
            · have hnb : ((n1 : Int) == k) = false := by simp; omega
              obtain ⟨e, he⟩ : ∃ e, e = d - 1 := ⟨_, rfl⟩
              have hw1 : IntKind.i64.wrap ((d : Int) - 1) = e := by rw [IntKind.wrap_i64]; omega
              have hei : (e : Int) < n1 := by omega
              obtain ⟨b, off, rfl, hblt, hc⟩ := HX1'.out (fun e => by have h1 := congrArg List.length e; rw [zsN_len] at h1; have h2 : pa.length = 0 := h1; have := HLM.out; omega)
              have hce := hc e (by rw [zsN_len, HLM.out]; omega)
              have hlt2 := HS2.out (by omega)
              rw [zsN_at, he] at hce
              have hce2 : wr.cell? ⟨b, off + e, none⟩ = some (.int .i64 (pa[d - 1]?.getD 0 : Nat)) := by rw [he]; exact (HB.out.cell (p := ⟨b, off + (d - 1), none⟩) hblt).trans hce
              clear hc hblt hce he
              generalize pa[d - 1]?.getD 0 = x at *
              have hxi : (x : Int) < H.length := by omega
              go_wp2_with (go_at_call 8; (with_reducible refine (HAW.out wr).mono ?_); rintro e w8 ⟨rfl, hb8⟩; have HB8 := Lib.hid (bel0 HBB.out hb8); clear hb8)
              go_ret
              exact ⟨rfl, HB8.out⟩
      · have hNi : (100 : Int) < N.length := by omega
        clear hN hT hH
        generalize bsB H = sH at *
        generalize bsB T = sT at *
        generalize bsB N = sN at *
        go_enter Try.func6, Try.ntmps6
        go_wp2_with (go_at_call 8; (with_reducible refine (HAW.out w).mono ?_); rintro e w8 ⟨rfl, hb8⟩; have HB8 := Lib.hid hb8; clear hb8)
        go_ret
        exact ⟨rfl, HB8.out⟩
    · have hTi : (200 : Int) < T.length := by omega
      clear hT hH
      generalize bsB H = sH at *
      generalize bsB T = sT at *
      generalize bsB N = sN at *
      go_enter Try.func6, Try.ntmps6
      go_wp2_with (go_at_call 8; (with_reducible refine (HAW.out w).mono ?_); rintro e w8 ⟨rfl, hb8⟩; have HB8 := Lib.hid hb8; clear hb8)
      go_ret
      exact ⟨rfl, HB8.out⟩
  · have hHi : (100 : Int) < H.length := by omega
    clear hH
    generalize bsB H = sH at *
    generalize bsB T = sT at *
    generalize bsB N = sN at *
    go_enter Try.func6, Try.ntmps6
    go_wp2_with (go_at_call 8; (with_reducible refine (HAW.out w).mono ?_); rintro e w8 ⟨rfl, hb8⟩; have HB8 := Lib.hid hb8; clear hb8)
    go_ret
    exact ⟨rfl, HB8.out⟩

end Go.Proofs.Ytmkgjfinmojjnaa
