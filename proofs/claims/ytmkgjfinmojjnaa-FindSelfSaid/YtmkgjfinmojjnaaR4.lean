/- The laws FindNext and FindApart. -/
import Derived.Test.YtmkgjfinmojjnaaR3
namespace Go.Proofs.Ytmkgjfinmojjnaa
open Go.RowKit

def firstZ (l : List Nat) : Int × Bool := match l with | p :: _ => ((p : Int), true) | [] => (0, false)
def geL (f : Int) (l : List Nat) : List Nat := l.filter fun p => decide (f ≤ (p : Int))
def ltL (f : Int) (l : List Nat) : List Nat := l.filter fun p => decide ((p : Int) < f)
theorem geL_snoc (f : Int) (l : List Nat) (x : Nat) : geL f (l ++ [x]) = geL f l ++ (if f ≤ (x : Int) then [x] else []) := by
  unfold geL
  rw [List.filter_append]
  by_cases h : f ≤ (x : Int) <;> simp [h]
theorem ltL_snoc (f : Int) (l : List Nat) (x : Nat) : ltL f (l ++ [x]) = ltL f l ++ (if (x : Int) < f then [x] else []) := by
  unfold ltL
  rw [List.filter_append]
  by_cases h : (x : Int) < f <;> simp [h]
theorem firstZ_app (l : List Nat) (x : Nat) : firstZ (l ++ [x]) = if (firstZ l).2 = true then firstZ l else ((x : Int), true) := by
  cases l with
  | nil => rfl
  | cons p t => rfl
theorem nextV_eq (T N : List UInt8) (f : Int) : nextV T N f = firstZ (geL f (pls idL T N)) := by
  obtain ⟨k, hk⟩ : ∃ k : Nat, max f 0 = k := ⟨(max f 0).toNat, by omega⟩
  have hg : geL f (pls idL T N) = (pls idL T N).filter fun p => decide (k ≤ p) := by
    unfold geL
    apply List.filter_congr
    intro a _
    by_cases h : f ≤ (a : Int)
    · rw [decide_eq_true h, decide_eq_true (by omega)]
    · rw [decide_eq_false h, decide_eq_false (by omega)]
  unfold nextV
  rw [hk, hg, Int.toNat_natCast]
  by_cases h : (T.length : Int) < k
  · rw [if_pos h]
    have : (pls idL T N).filter (fun p => decide (k ≤ p)) = [] := by
      rw [List.filter_eq_nil_iff]
      intro a ha
      have := pls_le idL T N a ha
      simp
      omega
    rw [this]
    rfl
  · rw [if_neg h, drop_pls idL T N k (by omega)]
    cases pls idL (T.drop k) N with
    | nil => rfl
    | cons p t =>
      show ((k : Int) + p, true) = (((k + p : Nat) : Int), true)
      rw [Int.natCast_add]
theorem take_snocN (xs : List Nat) (k : Nat) (h : k < xs.length) : xs.take (k + 1) = xs.take k ++ [xs[k]?.getD 0] := by
  rw [List.take_succ_eq_append_getElem h, List.getElem?_eq_getElem h]; rfl
theorem pair_eq {a b : Int × Bool} (h1 : a.1 = b.1) (h2 : a.2 = b.2) : a = b := Prod.ext h1 h2
set_option maxRecDepth 100000 in
set_option maxHeartbeats 8000000 in
theorem findNext_law (T N : List UInt8) (f : Int) (w : World) : Calls Try.prog 4 #[.string (bsB T), .string (bsB N), .int .i64 f] w fun e w' => e = .returned (.bool true) ∧ Below w.heap.size w w' := by
  have HAW := Lib.hid awake_any
  have hsT : ((bsB T).size : Int) = T.length := by rw [bsB_size]
  have hsN : ((bsB N).size : Int) = N.length := by rw [bsB_size]
  by_cases hT : T.length ≤ 400
  · have hTi : ¬ ((400 : Int) < T.length) := by omega
    by_cases hN : N.length ≤ 100
    · have hNi : ¬ ((100 : Int) < N.length) := by omega
      have hl0 := plU_len idL T N
      have HR0 : Hid (∀ W, Calls Try.prog 9 #[.string (bsB T), .string (bsB N), .bool false] W fun e w' => ∃ A c, e = .returned (.slice A (pls idL T N).length c) ∧ RI w' w'.heap.size A (zsN (pls idL T N)) ∧ Below W.heap.size W w') := Lib.hid fun W => (refAll_any T N (by omega) (by omega) false W).mono fun e w' ⟨A, c, he, ho, hb⟩ => ⟨A, c, he, ri_of ho, hb⟩
      have HNX : Hid (∀ W, Calls Try.prog 14 #[.string (bsB T), .string (bsB N), .int .i64 f] W fun e w' => e = .returned (.tuple #[.int .i64 (firstZ (geL f (pls idL T N))).1, .bool (firstZ (geL f (pls idL T N))).2]) ∧ Below W.heap.size W w') := Lib.hid fun W => by
        have := next_any T N (by omega) (by omega) f W
        rwa [nextV_eq] at this
      have HAH : Hid (∀ W, Calls Try.prog 15 #[.string (bsB T), .string (bsB N), .int .i64 f] W fun e w' => e = .returned (.tuple #[.int .i64 (lastV (ltL f (pls idL T N))).1, .bool (lastV (ltL f (pls idL T N))).2]) ∧ Below W.heap.size W w') := Lib.hid fun W => ahead_any T N (by omega) (by omega) f W
      generalize pls idL T N = pl at *
      obtain ⟨n0, hn0⟩ : ∃ n0, n0 = pl.length := ⟨_, rfl⟩
      rw [← hn0] at HR0 hl0
      have HLN := Lib.hid hn0
      clear hT hN hn0
      generalize bsB T = sT at *
      generalize bsB N = sN at *
      go_enter Try.func4, Try.ntmps4
      go_wp2_with (go_at_call 9; (with_reducible refine (HR0.out w).mono ?_); rintro e w1 ⟨A1, c1, rfl, hr1, hb1⟩; have HX1 := Lib.hid hr1; have HB1 := Lib.hid hb1; clear hr1 hb1 HR0)
      go_loopw [8, 9, 10, 11, 12] (fun v8 v9 v10 v11 v12 wr => ∃ (k : Nat) (nx ah : Int) (is was : Bool), v12 = .int .i64 k ∧ v8 = .int .i64 nx ∧ v9 = .int .i64 ah ∧ v10 = .bool is ∧ v11 = .bool was ∧ k ≤ n0 ∧ Hid ((nx, is) = firstZ (geL f (pl.take k))) ∧ Hid ((ah, was) = lastV (ltL f (pl.take k))) ∧ w1 = wr) (fun _ _ _ _ v12 _ => n0 - (intOf v12).toNat)
      case atStart => exact ⟨0, 0, 0, false, false, by go_num, rfl, rfl, rfl, rfl, Nat.zero_le _, Lib.hid rfl, Lib.hid rfl, rfl⟩
      case round =>
        obtain ⟨k, nx, ah, is, was, rfl, rfl, rfl, rfl, rfl, hk, HNV, HAV, rfl⟩ := hrel
        by_cases hlt : k < n0
        · have hki : (k : Int) < n0 := by omega
          obtain ⟨b, off, rfl, hblt, hc⟩ := HX1.out (fun e => by have h1 := congrArg List.length e; rw [zsN_len] at h1; have h2 : pl.length = 0 := h1; have := HLN.out; omega)
          have hck := hc k (by rw [zsN_len, ← HLN.out]; exact hlt)
          rw [zsN_at] at hck
          have HTK := Lib.hid (take_snocN pl k (by rw [← HLN.out]; exact hlt))
          clear hc hblt
          generalize pl[k]?.getD 0 = x at *
          by_cases hxf : (x : Int) < f
          · have hxg : ¬ (f ≤ (x : Int)) := by omega
            have HN2 : Hid ((nx, is) = firstZ (geL f (pl.take (k + 1)))) := Lib.hid (by rw [HTK.out, geL_snoc, if_neg hxg, List.append_nil]; exact HNV.out)
            have HA2 : Hid (((x : Int), true) = lastV (ltL f (pl.take (k + 1)))) := Lib.hid (by rw [HTK.out, ltL_snoc, if_pos hxf, lastV_snoc])
            clear HTK HNV HAV
            go_wp2
            go_roundw
            case rel => exact ⟨k + 1, nx, x, is, true, by go_num, rfl, rfl, rfl, rfl, hlt, HN2, HA2, trivial⟩
            case measure => simp [intOf]; omega
          · have hxg : f ≤ (x : Int) := by omega
            have HA2 : Hid ((ah, was) = lastV (ltL f (pl.take (k + 1)))) := Lib.hid (by rw [HTK.out, ltL_snoc, if_neg hxf, List.append_nil]; exact HAV.out)
            cases is with
            | true =>
              have HN2 : Hid ((nx, true) = firstZ (geL f (pl.take (k + 1)))) := Lib.hid (by rw [HTK.out, geL_snoc, if_pos hxg, firstZ_app, ← HNV.out, if_pos rfl])
              clear HTK HNV HAV
              go_wp2
              go_roundw
              case rel => exact ⟨k + 1, nx, ah, true, was, by go_num, rfl, rfl, rfl, rfl, hlt, HN2, HA2, trivial⟩
              case measure => simp [intOf]; omega
            | false =>
              have HN2 : Hid (((x : Int), true) = firstZ (geL f (pl.take (k + 1)))) := Lib.hid (by rw [HTK.out, geL_snoc, if_pos hxg, firstZ_app, ← HNV.out, if_neg (by simp)])
              clear HTK HNV HAV
              go_wp2
              go_roundw
              case rel => exact ⟨k + 1, x, ah, true, was, by go_num, rfl, rfl, rfl, rfl, hlt, HN2, HA2, trivial⟩
              case measure => simp [intOf]; omega
        · obtain rfl : k = n0 := by omega
          have HN2 := HNV.out
          have HA2 := HAV.out
          rw [List.take_of_length_le (by rw [← HLN.out]; exact Nat.le_refl _)] at HN2 HA2
          have HNX2 : Hid (∀ W, Calls Try.prog 14 #[.string sT, .string sN, .int .i64 f] W fun e w' => e = .returned (.tuple #[.int .i64 nx, .bool is]) ∧ Below W.heap.size W w') := Lib.hid fun W => by have := HNX.out W; rwa [← HN2] at this
          have HAH2 : Hid (∀ W, Calls Try.prog 15 #[.string sT, .string sN, .int .i64 f] W fun e w' => e = .returned (.tuple #[.int .i64 ah, .bool was]) ∧ Below W.heap.size W w') := Lib.hid fun W => by have := HAH.out W; rwa [← HA2] at this
          clear HN2 HA2 HNV HAV HNX HAH HX1
          go_wp2_with (first
            | (go_at_call 14; (with_reducible refine (HNX2.out w1).mono ?_); rintro e w2 ⟨rfl, hb2⟩; have HB2 := Lib.hid (bel0 HB1.out hb2); clear hb2)
            | (go_at_call 15; (with_reducible refine (HAH2.out w2).mono ?_); rintro e w3 ⟨rfl, hb3⟩; have HB3 := Lib.hid (bel0 HB2.out hb3); clear hb3)
            | (go_at_call 8; (with_reducible refine (HAW.out w3).mono ?_); rintro e w8 ⟨rfl, hb8⟩; have HB8 := Lib.hid (bel0 HB3.out hb8); clear hb8))
          go_ret
          exact ⟨rfl, HB8.out⟩
    · have hNi : (100 : Int) < N.length := by omega
      clear hN hT
      generalize bsB T = sT at *
      generalize bsB N = sN at *
      go_enter Try.func4, Try.ntmps4
      go_wp2_with (go_at_call 8; (with_reducible refine (HAW.out w).mono ?_); rintro e w8 ⟨rfl, hb8⟩; have HB8 := Lib.hid hb8; clear hb8)
      go_ret
      exact ⟨rfl, HB8.out⟩
  · have hTi : (400 : Int) < T.length := by omega
    clear hT
    generalize bsB T = sT at *
    generalize bsB N = sN at *
    go_enter Try.func4, Try.ntmps4
    go_wp2_with (go_at_call 8; (with_reducible refine (HAW.out w).mono ?_); rintro e w8 ⟨rfl, hb8⟩; have HB8 := Lib.hid hb8; clear hb8)
    go_ret
    exact ⟨rfl, HB8.out⟩
def endA (n : Nat) (acc : List Nat) : Nat := if acc = [] then 0 else acc.getLast?.getD 0 + n
theorem endA_snoc (n : Nat) (acc : List Nat) (x : Nat) : endA n (acc ++ [x]) = x + n := by
  unfold endA
  rw [if_neg (by simp)]
  simp
theorem apS_ge {n : Nat} {acc : List Nat} {p : Nat} (h : endA n acc ≤ p) : apS n acc p = acc ++ [p] := by
  refine apS_yes ?_
  unfold endA at h
  split at h
  · exact .inl (by assumption)
  · exact .inr h
theorem apS_lt {n : Nat} {acc : List Nat} {p : Nat} (h : p < endA n acc) : apS n acc p = acc := by
  unfold endA at h
  split at h
  · omega
  · exact apS_no (by assumption) h
set_option maxRecDepth 100000 in
set_option maxHeartbeats 8000000 in
theorem findApart_law (T N : List UInt8) (w : World) : Calls Try.prog 5 #[.string (bsB T), .string (bsB N)] w fun e w' => e = .returned (.bool true) ∧ Below w.heap.size w w' := by
  obtain ⟨i0, hi0, hz0, hz1, hz2⟩ := info_parts Try.infoInt
  have HAW := Lib.hid awake_any
  have hsT : ((bsB T).size : Int) = T.length := by rw [bsB_size]
  have hsN : ((bsB N).size : Int) = N.length := by rw [bsB_size]
  by_cases hT : T.length ≤ 400
  · have hTi : ¬ ((400 : Int) < T.length) := by omega
    by_cases hN : N.length ≤ 100
    · have hNi : ¬ ((100 : Int) < N.length) := by omega
      have hl0 := plU_len idL T N
      have hapl := apL_le N.length (pls idL T N)
      have HLE : Hid (∀ k : Nat, (pls idL T N)[k]?.getD 0 ≤ 400) := Lib.hid fun k => by
        cases h : (pls idL T N)[k]? with
        | none => exact Nat.zero_le _
        | some x => exact Nat.le_trans (pls_le idL T N x (List.mem_of_getElem? h)) hT
      have HR0 : Hid (∀ W, Calls Try.prog 9 #[.string (bsB T), .string (bsB N), .bool false] W fun e w' => ∃ A c, e = .returned (.slice A (pls idL T N).length c) ∧ RI w' w'.heap.size A (zsN (pls idL T N)) ∧ Below W.heap.size W w') := Lib.hid fun W => (refAll_any T N (by omega) (by omega) false W).mono fun e w' ⟨A, c, he, ho, hb⟩ => ⟨A, c, he, ri_of ho, hb⟩
      have HP0 : Hid (∀ W, Calls Try.prog 16 #[.string (bsB T), .string (bsB N)] W fun e w' => ∃ A c, e = .returned (.slice A (apL N.length (pls idL T N)).length c) ∧ RI w' w'.heap.size A (zsN (apL N.length (pls idL T N))) ∧ Below W.heap.size W w') := Lib.hid fun W => (apart_any T N (by omega) (by omega) W).mono fun e w' ⟨A, c, he, ho, hb⟩ => ⟨A, c, he, ri_of ho, hb⟩
      have HI0 : Hid (∀ W A A' c c', RI W W.heap.size A (zsN (apL N.length (pls idL T N))) → RI W W.heap.size A' (zsN (apL N.length (pls idL T N))) → Calls Try.prog 10 #[.slice A (apL N.length (pls idL T N)).length c, .slice A' (apL N.length (pls idL T N)).length c'] W fun e w' => e = .returned (.bool true) ∧ Below W.heap.size W w') := Lib.hid fun W A A' c c' h h' => ints_as _ _ true (by simp) _ _ rfl rfl (by omega) A A' c c' W h h'
      have HSN : Hid (∀ k : Nat, k < (pls idL T N).length → apL N.length ((pls idL T N).take (k + 1)) = apS N.length (apL N.length ((pls idL T N).take k)) ((pls idL T N)[k]?.getD 0)) := Lib.hid fun k hk => by rw [take_snocN _ k hk, apL_snoc]
      have HFL : Hid (∀ k, (pls idL T N).length ≤ k → apL N.length ((pls idL T N).take k) = apL N.length (pls idL T N)) := Lib.hid fun k hk => by rw [List.take_of_length_le hk]
      have HAL : Hid (∀ k, (apL N.length ((pls idL T N).take k)).length ≤ k) := Lib.hid fun k => by
        refine Nat.le_trans (apL_le _ _) ?_
        rw [List.length_take]
        omega
      generalize pls idL T N = pl at *
      obtain ⟨n0, hn0⟩ : ∃ n0, n0 = pl.length := ⟨_, rfl⟩
      rw [← hn0] at HR0 hl0 HSN HFL hapl
      have HLN := Lib.hid hn0
      have HE0 : Hid (apL N.length (pl.take 0) = []) := Lib.hid rfl
      have hnl : (N.length : Int) ≤ 100 := by omega
      clear hT hn0
      generalize bsB T = sT at *
      generalize bsB N = sN at *
      generalize N.length = nl at *
      go_enter Try.func5, Try.ntmps5
      go_wp2_with (go_at_call 9; (with_reducible refine (HR0.out w).mono ?_); rintro e w1 ⟨A1, c1, rfl, hr1, hb1⟩; have HX1 := Lib.hid hr1; have HB1 := Lib.hid hb1; clear hr1 hb1 HR0)
      go_loopw [6, 7, 8] (fun v6 v7 v8 wr => ∃ (k n : Nat) (A : Option Addr) (c : Nat) (acc : List Nat), v6 = .slice A n c ∧ v7 = .int .i64 (endA nl acc : Nat) ∧ v8 = .int .i64 k ∧ k ≤ n0 ∧ n ≤ k ∧ endA nl acc ≤ 500 ∧ Hid (n = acc.length) ∧ Hid (acc = apL nl (pl.take k)) ∧ Hid (wr.ownsRow w1.heap.size 3 1 (.slice A n c) n (intV acc)) ∧ Hid (Below w1.heap.size w1 wr)) (fun _ _ v8 _ => n0 - (intOf v8).toNat)
      case atStart => exact ⟨0, 0, none, 0, [], rfl, rfl, by go_num, Nat.zero_le _, Nat.le_refl _, Nat.zero_le _, Lib.hid rfl, Lib.hid HE0.out.symm, Lib.hid (World.ownsRow_nil _ _ _ _), Lib.hid (Below.refl _ _)⟩
      case round =>
        obtain ⟨k, n, A, c, acc, rfl, rfl, rfl, hk, hnk, hen, HN, HAC, HO, HB⟩ := hrel
        by_cases hlt : k < n0
        · have hki : (k : Int) < n0 := by omega
          obtain ⟨b, off, rfl, hblt, hc⟩ := HX1.out (fun e => by have h1 := congrArg List.length e; rw [zsN_len] at h1; have h2 : pl.length = 0 := h1; have := HLN.out; omega)
          have hck : wr.cell? ⟨b, off + k, none⟩ = some (.int .i64 (pl[k]?.getD 0 : Nat)) := by
            rw [← zsN_at]
            exact (HB.out.cell (p := ⟨b, off + k, none⟩) hblt).trans (hc k (by rw [zsN_len, ← HLN.out]; exact hlt))
          have HTK : Hid (apL nl (pl.take (k + 1)) = apS nl acc (pl[k]?.getD 0)) := Lib.hid (by rw [HAC.out]; exact HSN.out k hlt)
          have hxl := HLE.out k
          have hsz := (belA HB.out (.cells #[.int .i64 (pl[k]?.getD 0 : Nat)] 3)).size
          have hck2 : ∀ o, (wr.alloc o).cell? ⟨b, off + k, none⟩ = some (.int .i64 (pl[k]?.getD 0 : Nat)) := fun o => (belA (Below.refl wr.heap.size wr) o).cell (p := ⟨b, off + k, none⟩) (Nat.lt_of_lt_of_le hblt HB.out.size) |>.trans hck
          have HCK : Hid (∀ W, Below w1.heap.size w1 W → W.cell? ⟨b, off + k, none⟩ = some (.int .i64 (pl[k]?.getD 0 : Nat))) := Lib.hid fun W hW => by
            rw [← zsN_at]
            exact (hW.cell (p := ⟨b, off + k, none⟩) hblt).trans (hc k (by rw [zsN_len, ← HLN.out]; exact hlt))
          clear hc hblt
          generalize pl[k]?.getD 0 = x at *
          have hwe : IntKind.i64.wrap ((x : Int) + nl) = ((x + nl : Nat) : Int) := by rw [IntKind.wrap_i64]; omega
          by_cases hge : endA nl acc ≤ x
          · have hgi : ((endA nl acc : Nat) : Int) ≤ (x : Int) := by omega
            have HA2 : Hid (apL nl (pl.take (k + 1)) = acc ++ [x]) := Lib.hid (by rw [HTK.out, apS_ge hge])
            have HEN := Lib.hid (endA_snoc nl acc x)
            clear HTK hge HAC
            generalize endA nl acc = ea at *
            rw [Int.natCast_add] at hwe
            go_wp2_with (at_builtin; go_must (refine wpList_append_own _ rfl _ _ 23 rfl w1.heap.size 3 i0 (.int .i64 0) 1 8 Try.underlying23 hi0 hz0 hz1 hz2 rfl (by decide) (.slice A n c) n (intV acc) rfl (HO.out.alloc _) ⟨wr.heap.size, 0, none⟩ 1 1 [.int .i64 x] rfl rfl (news1 wr _ _) (by simp [Value.oneCell']) (by unfold maxLen; omega) (by omega) hsz ?_; intro v5 w5 hown5 hgrow5 _; obtain ⟨A5, c5, rfl, _⟩ := own_formC hown5; have HO5 := Lib.hid hown5; have HB5 := Lib.hid ((belA HB.out _).grown hgrow5 hsz (fun j e => ((HO.out.alloc (.cells #[.int .i64 x] 3)).lt _ e).1)); have hck5 := HCK.out _ HB5.out; clear hown5 hgrow5))
            go_roundw
            case rel => exact ⟨k + 1, n + 1, A5, c5, acc ++ [x], rfl, by rw [HEN.out]; rfl, by go_num, hlt, by omega, by rw [HEN.out]; omega, Lib.hid (by rw [List.length_append, HN.out]; rfl), Lib.hid HA2.out.symm, Lib.hid (by rw [intV_snoc]; exact HO5.out), HB5⟩
            case measure => simp [intOf]; omega
          · have hgi : ¬ ((endA nl acc : Nat) : Int) ≤ (x : Int) := by omega
            have HA2 : Hid (apL nl (pl.take (k + 1)) = acc) := Lib.hid (by rw [HTK.out, apS_lt (by omega)])
            clear HTK hge HAC
            go_wp2
            go_roundw
            case rel => exact ⟨k + 1, n, A, c, acc, rfl, rfl, by go_num, hlt, by omega, hen, HN, Lib.hid HA2.out.symm, HO, HB⟩
            case measure => simp [intOf]; omega
        · obtain rfl : k = n0 := by omega
          have HAE : Hid (acc = apL nl pl) := Lib.hid (HAC.out.trans (HFL.out k (Nat.le_refl _)))
          have hri : RI wr wr.heap.size A (zsN (apL nl pl)) := by
            rw [← HAE.out]
            have h1 := HO.out
            rw [HN.out] at h1
            exact ri_of h1
          have hne : n = (apL nl pl).length := by rw [← HAE.out]; exact HN.out
          have HX := Lib.hid hri
          rw [← hne] at HI0 HP0
          have HBB := Lib.hid (bel0 HB1.out HB.out)
          clear hri hne HAC HAE HN HO HB HX1 HSN HFL HAL HLE hapl
          generalize zsN (apL nl pl) = z1 at *
          generalize endA nl acc = ea at *
          go_wp2_with (first
            | (go_at_call 16; (with_reducible refine (HP0.out wr).mono ?_); rintro e w2 ⟨A2, c2, rfl, hr2, hb2⟩; have HX2 := Lib.hid hr2; have HX' := Lib.hid (HX.out.past hb2); have HB2 := Lib.hid (bel0 HBB.out hb2); clear hr2 hb2 HP0 HX)
            | (go_at_call 10; (with_reducible refine (HI0.out w2 A2 A c2 c HX2.out HX'.out).mono ?_); rintro e w3 ⟨rfl, hb3⟩; have HB3 := Lib.hid (bel0 HB2.out hb3); clear hb3 HX' HX2 HI0)
            | (go_at_call 8; (with_reducible refine (HAW.out w3).mono ?_); rintro e w8 ⟨rfl, hb8⟩; have HB8 := Lib.hid (bel0 HB3.out hb8); clear hb8))
          go_ret
          exact ⟨rfl, HB8.out⟩
    · have hNi : (100 : Int) < N.length := by omega
      clear hN hT
      generalize bsB T = sT at *
      generalize bsB N = sN at *
      go_enter Try.func5, Try.ntmps5
      go_wp2_with (go_at_call 8; (with_reducible refine (HAW.out w).mono ?_); rintro e w8 ⟨rfl, hb8⟩; have HB8 := Lib.hid hb8; clear hb8)
      go_ret
      exact ⟨rfl, HB8.out⟩
  · have hTi : (400 : Int) < T.length := by omega
    clear hT
    generalize bsB T = sT at *
    generalize bsB N = sN at *
    go_enter Try.func5, Try.ntmps5
    go_wp2_with (go_at_call 8; (with_reducible refine (HAW.out w).mono ?_); rintro e w8 ⟨rfl, hb8⟩; have HB8 := Lib.hid hb8; clear hb8)
    go_ret
    exact ⟨rfl, HB8.out⟩

end Go.Proofs.Ytmkgjfinmojjnaa
