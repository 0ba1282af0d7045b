/- The document's rising rows; the law JumpSorts. -/
import Derived.Test.YtfgnlohnalgnpaaJ9
namespace Go.Proofs.Ytfgnlohnalgnpaa
open Go.RowKit

theorem own_formC {w : World} {base : Nat} {e : TypeId} {size : Nat} {v : Value} {k : Nat} {xs : List Value} (h : w.ownsRow base e size v k xs) : ∃ A c, v = .slice A k c ∧ k ≤ c := by
  rcases h.2 with ⟨rfl, rfl⟩ | ⟨g, cap, cur, rfl, _, _, h1, _⟩
  · exact ⟨none, 0, rfl, Nat.le_refl _⟩
  · exact ⟨_, cap, rfl, h1⟩
def numV (xs : List Int) : List Value := xs.map (Value.int .i64)
def leastI : Int := -9223372036854775808
/-- How many rows are gathered when the row was told last: all up to it. -/
def UpTo (U : List Int) (k : Nat) (lst : Int) : Prop := k ≤ U.length ∧ (∀ j, j < k → j < U.length → nthI U j ≤ lst) ∧ (∀ j, k ≤ j → j < U.length → lst < nthI U j)
theorem upTo_next {U : List Int} (hU : U.Pairwise (· < ·)) {k : Nat} {lst : Int} (h : UpTo U k lst) : nextV lst U = if k < U.length then (nthI U k, true) else (0, false) := next_at hU lst k h.2.1 h.2.2
theorem upTo_succ {U : List Int} (hU : U.Pairwise (· < ·)) {k : Nat} (hk : k < U.length) : UpTo U (k + 1) (nthI U k) := by
  refine ⟨hk, fun j hj hl => ?_, fun j hj hl => rise_lt hU (by omega) hl⟩
  by_cases e : j = k
  · subst e; exact Int.le_refl _
  · exact Int.le_of_lt (rise_lt hU (by omega) hk)
theorem upTo_first {l : List Int} (hin : ∀ x ∈ l, InB x) (k : Nat) (hk : k = if l.contains leastI then 1 else 0) : UpTo (uqI l) k leastI ∧ (uqI l).take k = if l.contains leastI then [leastI] else [] := by
  have hU := uqI_rise l
  have hge : ∀ j, j < (uqI l).length → leastI ≤ nthI (uqI l) j := fun j hj => (hin _ ((uqI_mem l _).1 (nthI_mem hj))).1
  by_cases hc : l.contains leastI = true
  · rw [if_pos hc] at hk
    subst hk
    obtain ⟨p, hp, hv⟩ := nthI_of ((uqI_mem l _).2 (List.contains_iff_mem.1 hc))
    have hp0 : p = 0 := by
      rcases Nat.eq_zero_or_pos p with h | h
      · exact h
      · have h1 := rise_lt hU h hp
        have h2 := hge 0 (by omega)
        omega
    subst hp0
    refine ⟨?_, ?_⟩
    · have := upTo_succ hU hp
      rwa [hv] at this
    · rw [if_pos hc]
      generalize uqI l = U at *
      rcases U with _ | ⟨y, U⟩
      · simp at hp
      · simp only [nthI, List.getElem?_cons_zero, Option.getD_some] at hv
        simp [hv]
  · rw [if_neg hc] at hk
    subst hk
    refine ⟨⟨Nat.zero_le _, fun j hj => by omega, fun j _ hj => ?_⟩, by rw [if_neg hc]; rfl⟩
    have h1 := hge j hj
    by_cases e : leastI = nthI (uqI l) j
    · exact absurd (List.contains_iff_mem.2 ((uqI_mem l _).1 (e ▸ nthI_mem hj))) hc
    · omega
theorem contains_take (l : List Int) (x : Int) (k : Nat) (h : k < l.length) : (l.take (k + 1)).contains x = ((l.take k).contains x || decide (l[k]?.getD 0 = x)) := by
  rw [take_snocI l k h, Bool.eq_iff_iff]
  simp only [Bool.or_eq_true, decide_eq_true_eq, List.contains_iff_mem, List.mem_append, List.mem_singleton]
  exact or_congr Iff.rfl eq_comm
set_option maxRecDepth 100000 in
set_option maxHeartbeats 8000000 in
theorem refSorted_any (A : Option Addr) (l : List Int) (n c : Nat) (hn : n = l.length) (hl : n ≤ 1000000) (hin : ∀ x ∈ l, InB x) (w : World) (h : RI w w.heap.size A l) :
    Calls Try.prog 19 #[.slice A n c] w (NumsPost (uqI l) w) := by
  obtain ⟨i0, hi0, hz0, hz1, hz2⟩ := info_parts Try.infoInt
  have HN := Lib.hid hn
  have HR := Lib.hid h
  have hul : (uqI l).length ≤ n := hn ▸ uqI_len l
  have HNX : Hid (∀ W lst, RI W W.heap.size A l → Calls Try.prog 13 #[.slice A n c, .int .i64 lst] W fun e w' => e = .returned (.tuple #[.int .i64 (nextV lst (uqI l)).1, .bool (nextV lst (uqI l)).2]) ∧ W = w') := Lib.hid fun W lst h => by
    rw [next_eq (uqI_mem l)]
    exact (refNext_any A l n c hn hl lst W h).mono fun _ _ h => ⟨h.1, h.2.symm⟩
  have HF := Lib.hid (fun k hk => upTo_first hin k hk)
  have HCS := Lib.hid (fun k hk => contains_take l leastI k (hn ▸ hk))
  have HCA : Hid ((l.take n).contains leastI = l.contains leastI) := Lib.hid (by rw [List.take_of_length_le (by omega)])
  have HU := Lib.hid (uqI_rise l)
  obtain ⟨U, hU⟩ : ∃ U, U = uqI l := ⟨_, rfl⟩
  have HUE := Lib.hid hU
  rw [← hU] at hul HNX HF HU
  clear h hn hin hU
  cases hcl : l.contains leastI with
  | false =>
    have HF1 := Lib.hid (HF.out 0 (by rw [hcl]; rfl))
    rw [hcl] at HCA HF1
    clear hcl HF HCS
    go_enter Try.func19, Try.ntmps19
    go_wp2
    go_loopg [3, 5] n (fun gh s3 s5 wx => ∃ k : Nat, k + gh = n ∧ s5 = .int .i64 k ∧ s3 = .slice none 0 0 ∧ w = wx)
    case atStart => exact ⟨0, by omega, rfl, rfl, rfl⟩
    case round =>
      obtain ⟨k, hk, rfl, rfl, rfl⟩ := hrel
      cases gk with
      | zero =>
        obtain rfl : n = k := by omega
        go_wp2
        go_loopg [3, 4, 6, 7] (U.length - 0) (fun gh s3 s4 s6 s7 wx => ∃ (k : Nat) (A1 : Option Addr) (c1 : Nat) (lst : Int), k + gh = U.length ∧ s3 = .slice A1 k c1 ∧ s4 = .int .i64 lst ∧ w.heap.size ≤ wx.heap.size ∧ Hid (UpTo U k lst) ∧ Hid (Below w.heap.size w wx) ∧ Hid (wx.ownsRow w.heap.size 3 1 (.slice A1 k c1) k (numV (U.take k))))
        case atStart => exact ⟨0, none, 0, leastI, by omega, rfl, rfl, Nat.le_refl _, Lib.hid HF1.out.1, Lib.hid (Below.refl _ _), Lib.hid (World.ownsRow_nil _ _ _ _)⟩
        case round =>
          obtain ⟨k, A1, c1, lst, hk, rfl, rfl, hsz, HUP, HB, HO⟩ := hrel
          have hkn : (k : Int) ≤ n := by omega
          have HNX1 := Lib.hid (HNX.out wr lst (HR.out.past HB.out))
          have HV := Lib.hid (upTo_next HU.out HUP.out)
          cases gk with
          | zero =>
            obtain rfl : k = U.length := by omega
            have HE : Hid (nextV lst U = (0, false)) := Lib.hid (by rw [HV.out, if_neg (Nat.lt_irrefl _)])
            rw [HE.out] at HNX1
            clear HV HUP HNX
            go_wp2_with (go_at_call 13; (with_reducible refine HNX1.out.mono ?_); rintro e w4 ⟨rfl, rfl⟩)
            go_ret
            refine ⟨A1, c1, by rw [HUE.out]; rfl, ?_, HB.out⟩
            have ho := HO.out
            rw [List.take_length] at ho
            rw [← HUE.out]
            exact RI.of_own ho
          | succ gh =>
            have hku : k < U.length := by omega
            have HE : Hid (nextV lst U = (nthI U k, true)) := Lib.hid (by rw [HV.out, if_pos hku])
            have HN2 := Lib.hid (upTo_succ HU.out hku)
            rw [HE.out] at HNX1
            have HTK : Hid (numV (U.take k) ++ [.int .i64 (nthI U k)] = numV (U.take (k + 1))) := Lib.hid (by rw [take_snocI U k hku]; simp [numV])
            clear HV HUP HNX HE
            generalize nthI U k = y at *
            obtain ⟨os, hos⟩ : ∃ os, os = numV (U.take k) := ⟨_, rfl⟩
            rw [← hos] at HO HTK
            clear hos
            go_wp2_with (first
              | (go_at_call 13; (with_reducible refine HNX1.out.mono ?_); rintro e w4 ⟨rfl, rfl⟩; clear HNX1)
              | (at_builtin; go_must (refine wpList_append_own _ rfl _ _ 22 rfl w.heap.size 3 i0 (.int .i64 0) 1 8 Try.underlying22 hi0 hz0 hz1 hz2 rfl (by decide) (.slice A1 k c1) k os rfl (HO.out.alloc _) ⟨wr.heap.size, 0, none⟩ 1 1 [.int .i64 y] rfl rfl (news1 wr _ _) (by simp [Value.oneCell']) (by unfold maxLen; omega) (by omega) (by first | (simp; done) | (simp; omega)) ?_; intro v5 w5 hown5 hgrow5 _; obtain ⟨A5, c5, rfl, _⟩ := own_formC hown5; have HO5 := Lib.hid hown5; have HB5 := Lib.hid ((belA HB.out _).grown hgrow5 (by first | (simp; done) | (simp; omega)) (fun j e => ((HO.out.alloc (.cells #[.int .i64 y] 3)).lt _ e).1)); clear hown5 hgrow5)))
            go_roundg gh
            case measure => omega
            case rel =>
              have ho := HO5.out
              rw [HTK.out] at ho
              exact ⟨k + 1, A5, c5, y, by omega, rfl, rfl, HB5.out.size, HN2, HB5, Lib.hid ho⟩

      | succ gh =>
        have hlt : k < n := by omega
        have hki : (k : Int) < n := by omega
        obtain ⟨bb, off, e, hblt, hc⟩ := HR.out (fun e => by have := HN.out; rw [e] at this; simp at this; omega)
        subst e
        have hck := hc k (HN.out ▸ hlt)
        have hne : l[k]?.getD 0 ≠ leastI := fun e => by
          have h1 : leastI ∈ l := e ▸ nthI_mem (HN.out ▸ hlt)
          have h2 := HCA.out
          rw [List.take_of_length_le (by rw [← HN.out]; exact Nat.le_refl _)] at h2
          rw [List.contains_iff_mem.2 h1] at h2
          cases h2
        clear hc hblt HNX HF1 HCA
        generalize l[k]?.getD 0 = x at *
        unfold leastI at hne
        have hb : (x == (-9223372036854775808 : Int)) = false := by simpa using hne
        go_wp2
        go_roundg gh
        case measure => omega
        case rel => exact ⟨k + 1, by omega, by go_num, rfl, rfl⟩
  | true =>
    have HF1 := Lib.hid (HF.out 1 (by rw [hcl]; rfl))
    rw [hcl] at HCA HF1
    clear hcl HF
    go_enter Try.func19, Try.ntmps19
    go_wp2
    go_loopg [3, 5] n (fun gh s3 s5 wx => ∃ k : Nat, k + gh = n ∧ s5 = .int .i64 k ∧ s3 = .slice none 0 0 ∧ w = wx ∧ Hid ((l.take k).contains leastI = false))
    case atStart => exact ⟨0, by omega, rfl, rfl, rfl, Lib.hid rfl⟩
    case round =>
      obtain ⟨k, hk, rfl, rfl, rfl, HC⟩ := hrel
      cases gk with
      | zero =>
        obtain rfl : n = k := by omega
        exact absurd HC.out (by rw [HCA.out]; simp)
      | succ gh =>
        have hlt : k < n := by omega
        have hki : (k : Int) < n := by omega
        obtain ⟨bb, off, e, hblt, hc⟩ := HR.out (fun e => by have := HN.out; rw [e] at this; simp at this; omega)
        have hck0 := hc k (HN.out ▸ hlt)
        have HC2 := Lib.hid (HCS.out k hlt)
        rw [HC.out, Bool.false_or] at HC2
        clear hc hblt HCS HC
        by_cases hx : l[k]?.getD 0 = leastI
        · have hck : w.cell? ⟨bb, off + k, none⟩ = some (.int .i64 (-9223372036854775808)) := by rw [hck0, hx]; rfl
          have hul1 : 1 ≤ U.length := HF1.out.1.1
          have HT1 : Hid (numV (U.take 1) = [.int .i64 (-9223372036854775808)]) := Lib.hid (by rw [HF1.out.2]; rfl)
          have HO0 : Hid (w.ownsRow w.heap.size 3 1 (.slice none 0 0) 0 []) := Lib.hid (World.ownsRow_nil _ _ _ _)
          subst e
          clear hck0 HC2 HCA hx
          go_wp2_with (at_builtin; go_must (refine wpList_append_own _ rfl _ _ 22 rfl w.heap.size 3 i0 (.int .i64 0) 1 8 Try.underlying22 hi0 hz0 hz1 hz2 rfl (by decide) (.slice none 0 0) 0 [] rfl (HO0.out.alloc _) ⟨w.heap.size, 0, none⟩ 1 1 [.int .i64 (-9223372036854775808)] rfl rfl (news1 w _ _) (by simp [Value.oneCell']) (by unfold maxLen; omega) (by omega) (by first | (simp; done) | (simp; omega)) ?_; intro v5 w5 hown5 hgrow5 _; obtain ⟨A5, c5, rfl, _⟩ := own_formC hown5; have HO5 := Lib.hid hown5; have HB5 := Lib.hid ((belA (Below.refl w.heap.size w) _).grown hgrow5 (by first | (simp; done) | (simp; omega)) (fun j e => ((HO0.out.alloc (.cells #[.int .i64 (-9223372036854775808)] 3)).lt _ e).1)); clear hown5 hgrow5))
          go_loopg [3, 4, 6, 7] (U.length - 1) (fun gh s3 s4 s6 s7 wx => ∃ (k : Nat) (A1 : Option Addr) (c1 : Nat) (lst : Int), k + gh = U.length ∧ s3 = .slice A1 k c1 ∧ s4 = .int .i64 lst ∧ w.heap.size ≤ wx.heap.size ∧ Hid (UpTo U k lst) ∧ Hid (Below w.heap.size w wx) ∧ Hid (wx.ownsRow w.heap.size 3 1 (.slice A1 k c1) k (numV (U.take k))))
          case atStart => exact ⟨1, A5, c5, leastI, by omega, rfl, rfl, HB5.out.size, Lib.hid HF1.out.1, HB5, Lib.hid (by rw [HT1.out]; exact HO5.out)⟩
          case round =>
            obtain ⟨k, A1, c1, lst, hk, rfl, rfl, hsz, HUP, HB, HO⟩ := hrel
            have hkn : (k : Int) ≤ n := by omega
            have HNX1 := Lib.hid (HNX.out wr lst (HR.out.past HB.out))
            have HV := Lib.hid (upTo_next HU.out HUP.out)
            cases gk with
            | zero =>
              obtain rfl : k = U.length := by omega
              have HE : Hid (nextV lst U = (0, false)) := Lib.hid (by rw [HV.out, if_neg (Nat.lt_irrefl _)])
              rw [HE.out] at HNX1
              clear HV HUP HNX
              go_wp2_with (go_at_call 13; (with_reducible refine HNX1.out.mono ?_); rintro e w4 ⟨rfl, rfl⟩)
              go_ret
              refine ⟨A1, c1, by rw [HUE.out]; rfl, ?_, HB.out⟩
              have ho := HO.out
              rw [List.take_length] at ho
              rw [← HUE.out]
              exact RI.of_own ho
            | succ gh =>
              have hku : k < U.length := by omega
              have HE : Hid (nextV lst U = (nthI U k, true)) := Lib.hid (by rw [HV.out, if_pos hku])
              have HN2 := Lib.hid (upTo_succ HU.out hku)
              rw [HE.out] at HNX1
              have HTK : Hid (numV (U.take k) ++ [.int .i64 (nthI U k)] = numV (U.take (k + 1))) := Lib.hid (by rw [take_snocI U k hku]; simp [numV])
              clear HV HUP HNX HE
              generalize nthI U k = y at *
              obtain ⟨os, hos⟩ : ∃ os, os = numV (U.take k) := ⟨_, rfl⟩
              rw [← hos] at HO HTK
              clear hos
              go_wp2_with (first
                | (go_at_call 13; (with_reducible refine HNX1.out.mono ?_); rintro e w4 ⟨rfl, rfl⟩; clear HNX1)
                | (at_builtin; go_must (refine wpList_append_own _ rfl _ _ 22 rfl w.heap.size 3 i0 (.int .i64 0) 1 8 Try.underlying22 hi0 hz0 hz1 hz2 rfl (by decide) (.slice A1 k c1) k os rfl (HO.out.alloc _) ⟨wr.heap.size, 0, none⟩ 1 1 [.int .i64 y] rfl rfl (news1 wr _ _) (by simp [Value.oneCell']) (by unfold maxLen; omega) (by omega) (by first | (simp; done) | (simp; omega)) ?_; intro v5 w5 hown5 hgrow5 _; obtain ⟨A5, c5, rfl, _⟩ := own_formC hown5; have HO5 := Lib.hid hown5; have HB5 := Lib.hid ((belA HB.out _).grown hgrow5 (by first | (simp; done) | (simp; omega)) (fun j e => ((HO.out.alloc (.cells #[.int .i64 y] 3)).lt _ e).1)); clear hown5 hgrow5)))
              go_roundg gh
              case measure => omega
              case rel =>
                have ho := HO5.out
                rw [HTK.out] at ho
                exact ⟨k + 1, A5, c5, y, by omega, rfl, rfl, HB5.out.size, HN2, HB5, Lib.hid ho⟩

        · have hb : (l[k]?.getD 0 == (-9223372036854775808 : Int)) = false := by simpa [leastI] using hx
          rw [decide_eq_false hx] at HC2
          subst e
          clear HNX HF1 HCA hx
          generalize l[k]?.getD 0 = x at *
          go_wp2
          go_roundg gh
          case measure => omega
          case rel => exact ⟨k + 1, by omega, by go_num, rfl, rfl, HC2⟩

theorem ints_same (A A' : Option Addr) (U : List Int) (c c' : Nat) (hl : U.length ≤ 1000000) (W : World) (h : RI W W.heap.size A U) (h' : RI W W.heap.size A' U) :
    Calls Try.prog 17 #[.slice A U.length c, .slice A' U.length c'] W fun e w' => e = .returned (.bool true) ∧ Below W.heap.size W w' := by
  have := ints_any A A' U U _ _ c c' rfl rfl (by omega) W h h'
  rwa [show intsB U U = true from decide_eq_true rfl] at this
set_option maxRecDepth 100000 in
set_option maxHeartbeats 4000000 in
theorem jumpSorts_law (A : Option Addr) (l : List Int) (n c : Nat) (hn : n = l.length) (hin : ∀ x ∈ l, InB x) (w : World) (h : RI w w.heap.size A l) :
    Calls Try.prog 5 #[.slice A n c] w fun e w' => e = .returned (.bool true) ∧ Below w.heap.size w w' := by
  have HAW := Lib.hid awake_any
  by_cases hl : n ≤ 100
  · have hli : ¬ (100 : Int) < n := by omega
    have HR := Lib.hid h
    have HS := Lib.hid (fun W h => sort_any A l n c hn (by omega) W h)
    have HT := Lib.hid (fun W h => refSorted_any A l n c hn (by omega) hin W h)
    have HI := Lib.hid (fun A A' c c' W h h' => ints_same A A' (uqI l) c c' (Nat.le_trans (uqI_len l) (by omega)) W h h')
    clear h hn hin
    go_enter Try.func5, Try.ntmps5
    go_wp2_with (first
      | (go_at_call 9; (with_reducible refine (HAW.out w).mono ?_); rintro e w1 ⟨rfl, hb⟩; have HR1 := Lib.hid (HR.out.past hb); have HB1 := Lib.hid hb; clear hb HR)
      | (go_at_call 18; (with_reducible refine (HS.out w1 HR1.out).mono ?_); rintro e w2 ⟨A2, c2, rfl, hr, hb⟩; have HR2 := Lib.hid (HR1.out.past hb); have HX2 := Lib.hid hr; have HB2 := Lib.hid (bel0 HB1.out hb); clear hb hr HR1 HB1 HS)
      | (go_at_call 19; (with_reducible refine (HT.out w2 HR2.out).mono ?_); rintro e w3 ⟨A3, c3, rfl, hr, hb⟩; have HX3 := Lib.hid (HX2.out.past hb); have HY3 := Lib.hid hr; have HB3 := Lib.hid (bel0 HB2.out hb); clear hb hr HR2 HB2 HX2 HT)
      | (go_at_call 17; (with_reducible refine (HI.out A2 A3 c2 c3 w3 HX3.out HY3.out).mono ?_); rintro e w4 ⟨rfl, hb⟩; have HB4 := Lib.hid (bel0 HB3.out hb); clear hb HX3 HY3 HB3 HI))
    go_ret
    exact ⟨rfl, HB4.out⟩
  · have hli : (100 : Int) < n := by omega
    clear h hn hin
    go_enter Try.func5, Try.ntmps5
    go_wp2_with (go_at_call 9; (with_reducible refine (HAW.out w).mono ?_); rintro e w1 ⟨rfl, hb⟩; have HB1 := Lib.hid hb; clear hb)
    go_ret
    exact ⟨rfl, HB1.out⟩

end Go.Proofs.Ytfgnlohnalgnpaa
