/- The law JumpOf. -/
import Derived.Test.YtfgnlohnalgnpaaE6
namespace Go.Proofs.Ytfgnlohnalgnpaa
open Go.RowKit

set_option maxRecDepth 100000 in
set_option maxHeartbeats 16000000 in
theorem jumpOf_law (A : Option Addr) (l : List Bk) (n c : Nat) (hn : n = l.length) (hin : ∀ b ∈ l, InB b.s0 ∧ InB b.o0) (k : Int) (w : World) (h : RK encB 17 w A l) :
    Calls Try.prog 6 #[.slice A n c, .int .i64 k] w fun e w' => e = .returned (.bool true) ∧ Below w.heap.size w w' := by
  have HAW := Lib.hid awake_any
  by_cases hl : n ≤ 100
  · have hli : ¬ (100 : Int) < n := by omega
    obtain ⟨i0, hi0, hz0, hz1, hz2⟩ := info_parts Try.infoInt
    have HR := Lib.hid h
    have HN := Lib.hid hn
    have HLN := Lib.hid (of_len k l)
    have HOF := Lib.hid (fun W h => of_any A l n c hn (by omega) k W h)
    have hall : l.take n = l := List.take_of_length_le (by omega)
    have HALL := Lib.hid hall
    have hol : (ofL k l).length ≤ 100 := by
      have := of_len k l n (by omega)
      rw [hall] at this
      omega
    have HSRT : Hid (∀ W A1 m c1, m = (ofL k l).length → RI W W.heap.size A1 (ofL k l) → Calls Try.prog 19 #[.slice A1 m c1] W (NumsPost (uqI (ofL k l)) W)) := Lib.hid fun W A1 m c1 hm h => refSorted_any A1 (ofL k l) m c1 hm (by omega) (fun x hx => of_in k l hin n (by omega) x (by rw [hall]; exact hx)) W h
    have HI := Lib.hid (fun A A' c c' W h h' => ints_same A A' (uqI (ofL k l)) c c' (Nat.le_trans (uqI_len _) (by omega)) W h h')
    clear h hn hin hall
    go_enter Try.func6, Try.ntmps6
    go_wp2_with (go_at_call 9; (with_reducible refine (HAW.out w).mono ?_); rintro e w1 ⟨rfl, hb⟩; have HR1 := Lib.hid (HR.out.past hb); have HBW := Lib.hid hb; clear hb HR)
    go_loopg [5, 6, 7] n (fun gh s5 s6 s7 wx => ∃ (i m : Nat) (A1 : Option Addr) (c1 : Nat), i + gh = n ∧ s6 = .int .i64 i ∧ s5 = .slice A1 m c1 ∧ w1.heap.size ≤ wx.heap.size ∧ Hid (m = (ofL k (l.take i)).length) ∧ Hid (wx.ownsRow w1.heap.size 3 1 (.slice A1 m c1) m (numV (ofL k (l.take i)))) ∧ Hid (Below w1.heap.size w1 wx))
    case atStart => exact ⟨0, 0, none, 0, by omega, rfl, rfl, Nat.le_refl _, Lib.hid rfl, Lib.hid (World.ownsRow_nil _ _ _ _), Lib.hid (Below.refl _ _)⟩
    case round =>
      obtain ⟨i, m, A1, c1, hi, rfl, rfl, hs, HM, HO, HB⟩ := hrel
      have hm4 : m ≤ 1000 := by have := HLN.out i (by rw [← HN.out]; omega); have := HM.out; omega
      cases gk with
      | zero =>
        obtain rfl : n = i := by omega
        have HOF1 := Lib.hid (HOF.out wr (HR1.out.past HB.out))
        have HRI : Hid (m = (ofL k l).length ∧ RI wr wr.heap.size A1 (ofL k l)) := Lib.hid (by
          have ho := HO.out
          have hm := HM.out
          rw [HALL.out] at ho hm
          exact ⟨hm, RI.of_own ho⟩)
        have HBB := Lib.hid (bel0 HBW.out HB.out)
        clear HO HM HLN HOF HB HBW HR1
        generalize uqI (ofL k l) = U at *
        go_wp2_with (first
          | (go_at_call 20; (with_reducible refine HOF1.out.mono ?_); rintro e w2 ⟨A2, c2, rfl, hr, hb⟩; have HX2 := Lib.hid hr; have HI2 := Lib.hid (HRI.out.2.past hb); have HB2 := Lib.hid (bel0 HBB.out hb); clear hr hb HOF1 HBB)
          | (go_at_call 19; (with_reducible refine (HSRT.out w2 A1 m c1 HRI.out.1 HI2.out).mono ?_); rintro e w3 ⟨A3, c3, rfl, hr, hb⟩; have HX3 := Lib.hid (HX2.out.past hb); have HY3 := Lib.hid hr; have HB3 := Lib.hid (bel0 HB2.out hb); clear hr hb HX2 HB2 HI2 HSRT)
          | (go_at_call 17; (with_reducible refine (HI.out A2 A3 c2 c3 w3 HX3.out HY3.out).mono ?_); rintro e w4 ⟨rfl, hb⟩; have HB4 := Lib.hid (bel0 HB3.out hb); clear hb HX3 HY3 HB3 HI))
        go_ret
        exact ⟨rfl, HB4.out⟩
      | succ gh =>
        have hlt : i < n := by omega
        have hii : (i : Int) < n := by omega
        obtain ⟨bb, off, rfl, hG⟩ := HR1.out.bk (fun e => by have := HN.out; rw [e] at this; simp at this; omega)
        obtain ⟨g0, gA⟩ := hG _ HB.out
        have HRG := Lib.hid (gA i (HN.out ▸ hlt)).range
        have HSN := Lib.hid (of_snoc k l i (HN.out ▸ hlt))
        have HB1 := Lib.hid (HB.out.alloc hs (.cells (boxB (Bt l i)) 39))
        have HO1 := Lib.hid (HO.out.alloc (.cells (boxB (Bt l i)) 39))
        have HNE : Hid ((Value.slice A1 m c1).ownBlock ≠ some wr.heap.size) := Lib.hid fun e => by have := (HO.out.lt _ e).2; omega
        clear hG gA HLN HO HB HOF HSRT HI
        generalize Bt l i = x at *
        have hx0 : (boxB x)[0]? = some (.int .u64 x.id) := rfl
        have hx1 : (boxB x)[1]? = some (.int .i64 x.ph) := rfl
        have hx2 : (boxB x)[2]? = some (.int .i64 x.s0) := rfl
        have hx6 : (boxB x)[6]? = some (.int .i64 x.o0) := rfl
        have hx12 : (boxB x)[12]? = some (.int .i64 x.code) := rfl
        have hx13 : (boxB x)[13]? = some (.bool x.has) := rfl
        have HX0 := Lib.hid hx0
        have HX1 := Lib.hid hx1
        have HB17 : Hid ((boxB x).size = 17) := Lib.hid rfl
        have HB1C : Hid ((boxB x).all (·.oneCell') = true) := Lib.hid (by simp [boxB, Value.oneCell'])
        have HBE : Hid ((encB x).toArray = boxB x) := Lib.hid rfl
        have HBLN : Hid ((encB x).length = 17) := Lib.hid rfl
        generalize boxB x = bx at *
        generalize encB x = eb at *
        have HB1s : Hid (w1.heap.size ≤ (wr.alloc (.cells bx 39)).heap.size) := Lib.hid (by rw [World.size_alloc]; omega)
        have HNW : Hid (∀ v t, ∀ (j : Nat) (u : Value), [Value.int .i64 v][j]? = some u → ((wr.alloc (.cells bx 39)).alloc (.cells #[.int .i64 v] t)).cell? ((⟨wr.heap.size + 1, 0, none⟩ : Addr).add j) = some u) := Lib.hid fun v t => by
          have := news1 (wr.alloc (.cells bx 39)) (.int .i64 v) t
          rw [World.size_alloc] at this
          exact this
        have HAF : Hid (∀ (o : Obj) (w5 : World), ((wr.alloc (.cells bx 39)).alloc o).grownBy w5 (Value.slice A1 m c1).ownBlock → w5.heap[wr.heap.size]? = some (.cells bx 39 (0, 0)) ∧ w1.heap.size ≤ w5.heap.size ∧ Below w1.heap.size w1 w5) := Lib.hid fun o w5 hg => by
          have hgs := hg.size
          rw [World.size_alloc, World.size_alloc] at hgs
          refine ⟨((hg.block wr.heap.size (by rw [World.size_alloc, World.size_alloc]; omega) (fun e => HNE.out e.symm)).trans ((belA (Below.refl (wr.alloc (.cells bx 39)).heap.size (wr.alloc (.cells bx 39))) o).block _ (by rw [World.size_alloc]; omega))).trans (heap_alloc_new wr _), by omega, own_below (HO1.out.alloc o) (HB1.out.alloc HB1s.out o) (by rw [World.size_alloc, World.size_alloc]; omega) hg⟩
        have hst0 : stopV x k = if x.id = 0 then (0, false) else if k = 0 then (x.s0, true) else if k = 1 then (x.o0, decide (x.ph = 3) || decide (x.ph = 4)) else if k = 2 then (x.s0, x.has && !decide (x.code = 0)) else (0, false) := rfl
        have HST0 := Lib.hid hst0
        have hofs : ofS k (ofL k (l.take i)) x = if (stopV x k).2 then ofL k (l.take i) ++ [(stopV x k).1] else ofL k (l.take i) := rfl
        rw [hofs] at HSN
        clear hofs hst0 hs
        generalize stopV x k = st at *
        go_upto_region 7 with fail
        refine wp_region_lit ?_
        refine wpList_plain rfl (fun K hK => ?_)
        go_simp
        refine hK _ _ ?_
        clear hK K
        refine wpList_plain rfl (fun K hK => ?_)
        go_simp
        refine hK _ _ ?_
        clear hK K
        refine wpList_plain rfl (fun K hK => ?_)
        go_simp
        refine hK _ _ ?_
        clear hK K
        refine wpList_load_mid rfl 39 (.tmp 24) rfl bb (off + i * 17) rfl eb _ HRG.out Try.underlying39 rfl (by rw [infoBk, HBLN.out]) ?_
        rw [HBE.out]
        refine wpList_plain rfl (fun K hK => ?_)
        go_simp
        refine hK _ _ ?_
        clear hK K
        refine wpList_store_box rfl 39 (.tmp 7) (.tmp 25) rfl _ bx rfl rfl (by rw [infoBk, HB17.out]) (by rw [HB17.out]; rfl) HB1C.out (fun vz => ?_)
        refine wpList_nil ?_
        clear HRG HBE HBLN HB17 HB1C HNE
        have hst := HST0.out
        clear HST0
        by_cases hid : x.id = 0
        · rw [if_pos hid] at hst
          have hb0 : (x.id != 0) = false := by simpa using hid
          clear hid
          have HE : Hid (ofL k (l.take (i + 1)) = ofL k (l.take i)) := Lib.hid (by rw [HSN.out, hst]; rfl)
          clear hst HSN
          go_wp2
          go_roundg gh
          case measure => omega
          case rel => exact ⟨i + 1, m, A1, c1, by omega, by go_num, rfl, HB1s.out, Lib.hid (by rw [HE.out]; exact HM.out), Lib.hid (by rw [HE.out]; exact HO1.out), HB1⟩
        · rw [if_neg hid] at hst
          have hb0 : (x.id != 0) = true := by simpa using hid
          clear hid
          by_cases hk0 : k = 0
          · rw [if_pos hk0] at hst
            have hk0b : (k == 0) = true := by simpa using hk0
            have hk1b : (k == 1) = false := by rw [hk0]; rfl
            have hk2b : (k == 2) = false := by rw [hk0]; rfl
            clear hk0
            have HE : Hid (ofL k (l.take (i + 1)) = ofL k (l.take i) ++ [x.s0]) := Lib.hid (by rw [HSN.out, hst]; rfl)
            have HTK : Hid (numV (ofL k (l.take i)) ++ [.int .i64 x.s0] = numV (ofL k (l.take (i + 1)))) := Lib.hid (by rw [HE.out]; simp [numV])
            have HML : Hid (m + 1 = (ofL k (l.take (i + 1))).length) := Lib.hid (by rw [HE.out, List.length_append, ← HM.out]; rfl)
            clear hst HSN
            obtain ⟨os, hos⟩ : ∃ os, os = numV (ofL k (l.take i)) := ⟨_, rfl⟩
            rw [← hos] at HO1 HTK
            clear hos
            go_wp2_with (at_builtin; go_must (refine wpList_append_own _ rfl _ _ 22 rfl w1.heap.size 3 i0 (.int .i64 0) 1 8 Try.underlying22 hi0 hz0 hz1 hz2 rfl (by decide) (.slice A1 m c1) m os rfl (HO1.out.alloc _) ⟨wr.heap.size + 1, 0, none⟩ 1 1 [.int .i64 x.s0] rfl rfl (HNW.out _ _) (by simp [Value.oneCell']) (by unfold maxLen; omega) (by omega) (by rw [World.size_alloc]; exact Nat.le_trans HB1s.out (Nat.le_succ _)) ?_; intro v5 w5 hown5 hgrow5 _; obtain ⟨A5, c5, rfl, _⟩ := own_formC hown5; have HO5 := Lib.hid hown5; obtain ⟨y5, hs5, hb5⟩ := HAF.out _ _ hgrow5; have q0 : w5.cell? ⟨wr.heap.size, 0, none⟩ = some (.int .u64 x.id) := (cell_of_row _ _ 0 _ _ _ y5).trans HX0.out; have q1 : w5.cell? ⟨wr.heap.size, 1, none⟩ = some (.int .i64 x.ph) := (cell_of_row _ _ 1 _ _ _ y5).trans HX1.out; have HB5 := Lib.hid hb5; clear hown5 hgrow5 y5 hb5))
            go_roundg gh
            case measure => omega
            case rel =>
              have ho5 := HO5.out
              rw [HTK.out] at ho5
              exact ⟨i + 1, m + 1, A5, c5, by omega, by go_num, rfl, hs5, HML, Lib.hid ho5, HB5⟩
          · rw [if_neg hk0] at hst
            have hk0b : (k == 0) = false := by simpa using hk0
            by_cases hk1 : k = 1
            · rw [if_pos hk1] at hst
              have hk1b : (k == 1) = true := by simpa using hk1
              have hk2b : (k == 2) = false := by rw [hk1]; rfl
              clear hk0 hk1
              by_cases h3 : x.ph = 3
              · rw [decide_eq_true h3, Bool.true_or] at hst
                have h3b : (x.ph == 3) = true := by simpa using h3
                clear h3
                have HE : Hid (ofL k (l.take (i + 1)) = ofL k (l.take i) ++ [x.o0]) := Lib.hid (by rw [HSN.out, hst]; rfl)
                have HTK : Hid (numV (ofL k (l.take i)) ++ [.int .i64 x.o0] = numV (ofL k (l.take (i + 1)))) := Lib.hid (by rw [HE.out]; simp [numV])
                have HML : Hid (m + 1 = (ofL k (l.take (i + 1))).length) := Lib.hid (by rw [HE.out, List.length_append, ← HM.out]; rfl)
                clear hst HSN
                obtain ⟨os, hos⟩ : ∃ os, os = numV (ofL k (l.take i)) := ⟨_, rfl⟩
                rw [← hos] at HO1 HTK
                clear hos
                go_wp2_with (at_builtin; go_must (refine wpList_append_own _ rfl _ _ 22 rfl w1.heap.size 3 i0 (.int .i64 0) 1 8 Try.underlying22 hi0 hz0 hz1 hz2 rfl (by decide) (.slice A1 m c1) m os rfl (HO1.out.alloc _) ⟨wr.heap.size + 1, 0, none⟩ 1 1 [.int .i64 x.o0] rfl rfl (HNW.out _ _) (by simp [Value.oneCell']) (by unfold maxLen; omega) (by omega) (by rw [World.size_alloc]; exact Nat.le_trans HB1s.out (Nat.le_succ _)) ?_; intro v5 w5 hown5 hgrow5 _; obtain ⟨A5, c5, rfl, _⟩ := own_formC hown5; have HO5 := Lib.hid hown5; obtain ⟨y5, hs5, hb5⟩ := HAF.out _ _ hgrow5; have q0 : w5.cell? ⟨wr.heap.size, 0, none⟩ = some (.int .u64 x.id) := (cell_of_row _ _ 0 _ _ _ y5).trans HX0.out; have q1 : w5.cell? ⟨wr.heap.size, 1, none⟩ = some (.int .i64 x.ph) := (cell_of_row _ _ 1 _ _ _ y5).trans HX1.out; have HB5 := Lib.hid hb5; clear hown5 hgrow5 y5 hb5))
                go_roundg gh
                case measure => omega
                case rel =>
                  have ho5 := HO5.out
                  rw [HTK.out] at ho5
                  exact ⟨i + 1, m + 1, A5, c5, by omega, by go_num, rfl, hs5, HML, Lib.hid ho5, HB5⟩
              · rw [decide_eq_false h3, Bool.false_or] at hst
                have h3b : (x.ph == 3) = false := by simpa using h3
                by_cases h4 : x.ph = 4
                · rw [decide_eq_true h4] at hst
                  have h4b : (x.ph == 4) = true := by simpa using h4
                  clear h3 h4
                  have HE : Hid (ofL k (l.take (i + 1)) = ofL k (l.take i) ++ [x.o0]) := Lib.hid (by rw [HSN.out, hst]; rfl)
                  have HTK : Hid (numV (ofL k (l.take i)) ++ [.int .i64 x.o0] = numV (ofL k (l.take (i + 1)))) := Lib.hid (by rw [HE.out]; simp [numV])
                  have HML : Hid (m + 1 = (ofL k (l.take (i + 1))).length) := Lib.hid (by rw [HE.out, List.length_append, ← HM.out]; rfl)
                  clear hst HSN
                  obtain ⟨os, hos⟩ : ∃ os, os = numV (ofL k (l.take i)) := ⟨_, rfl⟩
                  rw [← hos] at HO1 HTK
                  clear hos
                  go_wp2_with (at_builtin; go_must (refine wpList_append_own _ rfl _ _ 22 rfl w1.heap.size 3 i0 (.int .i64 0) 1 8 Try.underlying22 hi0 hz0 hz1 hz2 rfl (by decide) (.slice A1 m c1) m os rfl (HO1.out.alloc _) ⟨wr.heap.size + 1, 0, none⟩ 1 1 [.int .i64 x.o0] rfl rfl (HNW.out _ _) (by simp [Value.oneCell']) (by unfold maxLen; omega) (by omega) (by rw [World.size_alloc]; exact Nat.le_trans HB1s.out (Nat.le_succ _)) ?_; intro v5 w5 hown5 hgrow5 _; obtain ⟨A5, c5, rfl, _⟩ := own_formC hown5; have HO5 := Lib.hid hown5; obtain ⟨y5, hs5, hb5⟩ := HAF.out _ _ hgrow5; have q0 : w5.cell? ⟨wr.heap.size, 0, none⟩ = some (.int .u64 x.id) := (cell_of_row _ _ 0 _ _ _ y5).trans HX0.out; have q1 : w5.cell? ⟨wr.heap.size, 1, none⟩ = some (.int .i64 x.ph) := (cell_of_row _ _ 1 _ _ _ y5).trans HX1.out; have HB5 := Lib.hid hb5; clear hown5 hgrow5 y5 hb5))
                  go_roundg gh
                  case measure => omega
                  case rel =>
                    have ho5 := HO5.out
                    rw [HTK.out] at ho5
                    exact ⟨i + 1, m + 1, A5, c5, by omega, by go_num, rfl, hs5, HML, Lib.hid ho5, HB5⟩
                · rw [decide_eq_false h4] at hst
                  have h4b : (x.ph == 4) = false := by simpa using h4
                  clear h3 h4
                  have HE : Hid (ofL k (l.take (i + 1)) = ofL k (l.take i)) := Lib.hid (by rw [HSN.out, hst]; rfl)
                  clear hst HSN
                  go_wp2
                  go_roundg gh
                  case measure => omega
                  case rel => exact ⟨i + 1, m, A1, c1, by omega, by go_num, rfl, HB1s.out, Lib.hid (by rw [HE.out]; exact HM.out), Lib.hid (by rw [HE.out]; exact HO1.out), HB1⟩
            · rw [if_neg hk1] at hst
              have hk1b : (k == 1) = false := by simpa using hk1
              by_cases hk2 : k = 2
              · rw [if_pos hk2] at hst
                have hk2b : (k == 2) = true := by simpa using hk2
                clear hk0 hk1 hk2
                cases hh : x.has with
                | false =>
                  rw [hh, Bool.false_and] at hst
                  rw [hh] at hx13
                  have HE : Hid (ofL k (l.take (i + 1)) = ofL k (l.take i)) := Lib.hid (by rw [HSN.out, hst]; rfl)
                  clear hst HSN
                  go_wp2
                  go_roundg gh
                  case measure => omega
                  case rel => exact ⟨i + 1, m, A1, c1, by omega, by go_num, rfl, HB1s.out, Lib.hid (by rw [HE.out]; exact HM.out), Lib.hid (by rw [HE.out]; exact HO1.out), HB1⟩
                | true =>
                  rw [hh, Bool.true_and] at hst
                  rw [hh] at hx13
                  by_cases hc : x.code = 0
                  · rw [decide_eq_true hc] at hst
                    have hcb : (x.code != 0) = false := by simpa using hc
                    clear hc
                    have HE : Hid (ofL k (l.take (i + 1)) = ofL k (l.take i)) := Lib.hid (by rw [HSN.out, hst]; rfl)
                    clear hst HSN
                    go_wp2
                    go_roundg gh
                    case measure => omega
                    case rel => exact ⟨i + 1, m, A1, c1, by omega, by go_num, rfl, HB1s.out, Lib.hid (by rw [HE.out]; exact HM.out), Lib.hid (by rw [HE.out]; exact HO1.out), HB1⟩
                  · rw [decide_eq_false hc] at hst
                    have hcb : (x.code != 0) = true := by simpa using hc
                    clear hc
                    have HE : Hid (ofL k (l.take (i + 1)) = ofL k (l.take i) ++ [x.s0]) := Lib.hid (by rw [HSN.out, hst]; rfl)
                    have HTK : Hid (numV (ofL k (l.take i)) ++ [.int .i64 x.s0] = numV (ofL k (l.take (i + 1)))) := Lib.hid (by rw [HE.out]; simp [numV])
                    have HML : Hid (m + 1 = (ofL k (l.take (i + 1))).length) := Lib.hid (by rw [HE.out, List.length_append, ← HM.out]; rfl)
                    clear hst HSN
                    obtain ⟨os, hos⟩ : ∃ os, os = numV (ofL k (l.take i)) := ⟨_, rfl⟩
                    rw [← hos] at HO1 HTK
                    clear hos
                    go_wp2_with (at_builtin; go_must (refine wpList_append_own _ rfl _ _ 22 rfl w1.heap.size 3 i0 (.int .i64 0) 1 8 Try.underlying22 hi0 hz0 hz1 hz2 rfl (by decide) (.slice A1 m c1) m os rfl (HO1.out.alloc _) ⟨wr.heap.size + 1, 0, none⟩ 1 1 [.int .i64 x.s0] rfl rfl (HNW.out _ _) (by simp [Value.oneCell']) (by unfold maxLen; omega) (by omega) (by rw [World.size_alloc]; exact Nat.le_trans HB1s.out (Nat.le_succ _)) ?_; intro v5 w5 hown5 hgrow5 _; obtain ⟨A5, c5, rfl, _⟩ := own_formC hown5; have HO5 := Lib.hid hown5; obtain ⟨y5, hs5, hb5⟩ := HAF.out _ _ hgrow5; have q0 : w5.cell? ⟨wr.heap.size, 0, none⟩ = some (.int .u64 x.id) := (cell_of_row _ _ 0 _ _ _ y5).trans HX0.out; have q1 : w5.cell? ⟨wr.heap.size, 1, none⟩ = some (.int .i64 x.ph) := (cell_of_row _ _ 1 _ _ _ y5).trans HX1.out; have HB5 := Lib.hid hb5; clear hown5 hgrow5 y5 hb5))
                    go_roundg gh
                    case measure => omega
                    case rel =>
                      have ho5 := HO5.out
                      rw [HTK.out] at ho5
                      exact ⟨i + 1, m + 1, A5, c5, by omega, by go_num, rfl, hs5, HML, Lib.hid ho5, HB5⟩
              · rw [if_neg hk2] at hst
                have hk2b : (k == 2) = false := by simpa using hk2
                clear hk0 hk1 hk2
                have HE : Hid (ofL k (l.take (i + 1)) = ofL k (l.take i)) := Lib.hid (by rw [HSN.out, hst]; rfl)
                clear hst HSN
                go_wp2
                go_roundg gh
                case measure => omega
                case rel => exact ⟨i + 1, m, A1, c1, by omega, by go_num, rfl, HB1s.out, Lib.hid (by rw [HE.out]; exact HM.out), Lib.hid (by rw [HE.out]; exact HO1.out), HB1⟩
  · have hli : (100 : Int) < n := by omega
    clear h hn hin
    go_enter Try.func6, Try.ntmps6
    go_wp2_with (go_at_call 9; (with_reducible refine (HAW.out w).mono ?_); rintro e w1 ⟨rfl, hb⟩; have HB1 := Lib.hid hb; clear hb)
    go_ret
    exact ⟨rfl, HB1.out⟩

end Go.Proofs.Ytfgnlohnalgnpaa
