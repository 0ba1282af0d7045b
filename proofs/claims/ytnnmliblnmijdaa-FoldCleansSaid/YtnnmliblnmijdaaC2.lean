/- The law FoldCleans. -/
import Derived.Test.YtnnmliblnmijdaaC1
namespace Go.Proofs.Ytnnmliblnmijdaa
open Go.RowKit

theorem infoRF : (Try.prog.info? 47).map (fun i => (i.zero, i.size, i.bytes)) = some (some (.agg #[.int .i64 0, .int .i64 0, .int .u64 0]), 3, 24) := by kernel_rfl
theorem eqFold_self (w : World) (a b c : Int) : (Op.equalIn 10000 48 (.agg #[.int .i64 a, .int .i64 b, .int .u64 c]) (.agg #[.int .i64 a, .int .i64 b, .int .u64 c])).run Try.prog w = .ok true w := by
  rw [eqFold]
  simp
set_option maxRecDepth 100000 in
set_option maxHeartbeats 16000000 in
theorem foldCleans_law (A : Option Addr) (l : List T3) (n c : Nat) (hn : n = l.length) (rows : Int) (w : World) (h : RK encF 3 w A l) :
    Calls Try.prog 6 #[.int .i64 rows, .slice A n c] w fun e w' => e = .returned (.bool true) ∧ Below w.heap.size w w' := by
  have HAW := Lib.hid awake_any
  by_cases hl : n ≤ 60
  · have hli : ¬ (60 : Int) < n := by omega
    obtain ⟨i0, hi0, hz0, hz1, hz2⟩ := info_parts infoRF
    have hgu := guardFold
    have HR := Lib.hid h
    have HN := Lib.hid hn
    have HT := Lib.hid (fun W h => to_any A l n c hn (by omega) W h)
    have HCL := Lib.hid (cl_len rows l)
    obtain ⟨M, hM⟩ : ∃ M, M = (clV rows l).1 := ⟨_, rfl⟩
    obtain ⟨mg, hmg⟩ : ∃ mg, mg = M.length := ⟨_, rfl⟩
    have HMM := Lib.hid hM
    have HMG := Lib.hid hmg
    have hmg60 : mg ≤ 60 := by
      have := cl_len rows l n (by omega)
      rw [List.take_of_length_le (by omega), ← hM, ← hmg] at this
      omega
    have HC : Hid (∀ W A' c', RK encF 3 W A' l → Calls Try.prog 19 #[.int .i64 rows, .slice A' n c'] W fun e w' => ∃ A2 c2, e = .returned (.slice A2 mg c2) ∧ RK encF 3 w' A2 M ∧ Below W.heap.size W w') := Lib.hid fun W A' c' h => by
      rw [hmg, hM]
      exact clean_any A' l n c' hn (by omega) rows W h
    have HRG : Hid (∀ W A' c', RK encF 3 W A' M → Calls Try.prog 13 #[.int .i64 rows, .slice A' mg c'] W fun e w' => e = .returned (.bool true) ∧ Below W.heap.size W w') := Lib.hid fun W A' c' h => by
      have := right_any A' M mg c' hmg (by omega) rows W h
      have e := (cl_right rows l n (by omega)).1
      rw [List.take_of_length_le (by omega), ← hM] at e
      rwa [e] at this
    have HRF := Lib.hid (fun W h => refRight_any A l n c hn (by omega) rows W h)
    have HSELF : Hid (rightB rows 0 l = true → mg = n) := Lib.hid fun hr => by
      have := cl_self hr n (by omega)
      rw [List.take_of_length_le (by omega)] at this
      rw [hmg, hM, this]
      exact hn.symm
    obtain ⟨rr, hrr⟩ : ∃ rr, rr = rightB rows 0 l := ⟨_, rfl⟩
    rw [← hrr] at HRF HSELF
    clear h hn hM hmg hrr
    go_enter Try.func6, Try.ntmps6
    go_wp2_with (first
      | (go_at_call 8; (with_reducible refine (HAW.out w).mono ?_); rintro e w1 ⟨rfl, hb⟩; have HR1 := Lib.hid (HR.out.past hb); have HB1 := Lib.hid hb; clear hb HR)
      | (go_at_call 9; (with_reducible refine (HT.out w1 HR1.out).mono ?_); rintro e w2 ⟨A2, c2, rfl, hq, hb⟩; have HR2 := Lib.hid (HR1.out.past hb); have HX2 := Lib.hid hq; have HB2 := Lib.hid (bel0 HB1.out hb); clear hb hq HR1 HB1 HT)
      | (go_at_call 19; (with_reducible refine (HC.out w2 A2 c2 HX2.out).mono ?_); rintro e w3 ⟨A3, c3, rfl, hq, hb⟩; have HR3 := Lib.hid (HR2.out.past hb); have HX3 := Lib.hid hq; have HB3 := Lib.hid (bel0 HB2.out hb); clear hb hq HR2 HB2 HX2 HC))
    go_loopg [6, 7, 8, 9] n (fun gh s6 s7 s8 s9 wx => ∃ (k m : Nat) (A1 : Option Addr) (c1 : Nat), k + gh = n ∧ s8 = .int .i64 k ∧ s7 = .int .i64 (clV rows (l.take k)).2 ∧ s6 = .slice A1 m c1 ∧ w3.heap.size ≤ wx.heap.size ∧ Hid (m = (clV rows (l.take k)).1.length) ∧ Hid (wx.ownsRow w3.heap.size 47 3 (.slice A1 m c1) m (rowsV encF (clV rows (l.take k)).1)) ∧ Hid (Below w3.heap.size w3 wx))
    case atStart => exact ⟨0, 0, none, 0, by omega, rfl, rfl, rfl, Nat.le_refl _, Lib.hid rfl, Lib.hid (World.ownsRow_nil _ _ _ _), Lib.hid (Below.refl _ _)⟩
    case round =>
      obtain ⟨k, m, A1, c1, hk, rfl, rfl, rfl, hs, HM, HO, HB⟩ := hrel
      cases gk with
      | zero =>
        obtain rfl : n = k := by omega
        have hE : mg = m ∧ RK encF 3 wr A1 M := by
          have ho := HO.out
          have hm := HM.out
          rw [List.take_of_length_le (by rw [← HN.out]; exact Nat.le_refl _), ← HMM.out] at ho hm
          exact ⟨HMG.out.trans hm.symm, RK.of_own encF_len ho hm⟩
        obtain ⟨rfl, hxw⟩ := hE
        have HXW0 := Lib.hid hxw
        have HXG0 := Lib.hid (HX3.out.past HB.out)
        have HRR := Lib.hid (HR3.out.past HB.out)
        have HBB := Lib.hid (bel0 HB3.out HB.out)
        clear HO HM HX3 HR3 HB3 HCL hs hxw
        generalize (clV rows (l.take n)).2 = z at *
        cases rr with
        | false =>
          clear HSELF
          go_wp2_with (first
            | (go_at_call 13; (with_reducible refine (HRG.out wr _ _ HXG0.out).mono ?_); rintro e w6 ⟨rfl, hb⟩; have HXG1 := Lib.hid (HXG0.out.past hb); have HXW1 := Lib.hid (HXW0.out.past hb); have HRR1 := Lib.hid (HRR.out.past hb); have HB6 := Lib.hid (bel0 HBB.out hb); clear hb HXG0 HXW0 HRR HBB)
            | (go_at_call 12; (with_reducible refine (HRF.out w6 HRR1.out).mono ?_); rintro e w7 ⟨rfl, hb⟩; have HXG := Lib.hid (HXG1.out.past hb); have HXW := Lib.hid (HXW1.out.past hb); have HB7 := Lib.hid (bel0 HB6.out hb); clear hb HXG1 HXW1 HRR1 HB6))
          go_loopg [10] mg (fun gh s10 wx => ∃ j q : Nat, j + gh = mg ∧ s10 = .int .i64 j ∧ wx = w7.drewN q)
          case atStart => exact ⟨0, 0, by omega, rfl, rfl⟩
          case round =>
            obtain ⟨j, q, hj, rfl, rfl⟩ := hrel
            cases gk with
            | zero =>
              obtain rfl : mg = j := by omega
              go_wp2
              go_ret
              exact ⟨rfl, bel0 HB7.out (belN' _ _)⟩
            | succ gh =>
              have hjm : j < mg := by omega
              have hji : (j : Int) < mg := by omega
              obtain ⟨b1, o1, rfl, hG1⟩ := HXG.out.fd (fun e => by have := HMG.out; rw [e] at this; simp at this; omega)
              obtain ⟨b2, o2, rfl, hG2⟩ := HXW.out.fd (fun e => by have := HMG.out; rw [e] at this; simp at this; omega)
              obtain ⟨g1, gA1⟩ := hG1 w7 (Below.refl _ _)
              obtain ⟨g2, gA2⟩ := hG2 w7 (Below.refl _ _)
              obtain ⟨p0, p1, p2⟩ := gA1 j (HMG.out ▸ hjm)
              obtain ⟨r0, r1, r2⟩ := gA2 j (HMG.out ▸ hjm)
              clear hG1 hG2 gA1 gA2
              have hq1 := fun W => eqFold_self W (Nth M j).1 (Nth M j).2.1 (Nth M j).2.2
              generalize Nth M j = x at *
              obtain ⟨xa, xb, xc⟩ := x
              simp only at p0 p1 p2 r0 r1 r2 hq1
              go_wp2
              go_quiet (fail)
              go_wp2
              go_roundg gh
              case measure => omega
              case rel => exact ⟨j + 1, q + nq, by omega, by go_num, rfl⟩

        | true =>
          obtain rfl := HSELF.out rfl
          clear HSELF
          go_wp2_with (first
            | (go_at_call 13; (with_reducible refine (HRG.out wr _ _ HXG0.out).mono ?_); rintro e w6 ⟨rfl, hb⟩; have HXG1 := Lib.hid (HXG0.out.past hb); have HXW1 := Lib.hid (HXW0.out.past hb); have HRR1 := Lib.hid (HRR.out.past hb); have HB6 := Lib.hid (bel0 HBB.out hb); clear hb HXG0 HXW0 HRR HBB)
            | (go_at_call 12; (with_reducible refine (HRF.out w6 HRR1.out).mono ?_); rintro e w7 ⟨rfl, hb⟩; have HXG := Lib.hid (HXG1.out.past hb); have HXW := Lib.hid (HXW1.out.past hb); have HB7 := Lib.hid (bel0 HB6.out hb); clear hb HXG1 HXW1 HRR1 HB6))
          go_loopg [10] mg (fun gh s10 wx => ∃ j q : Nat, j + gh = mg ∧ s10 = .int .i64 j ∧ wx = w7.drewN q)
          case atStart => exact ⟨0, 0, by omega, rfl, rfl⟩
          case round =>
            obtain ⟨j, q, hj, rfl, rfl⟩ := hrel
            cases gk with
            | zero =>
              obtain rfl : mg = j := by omega
              go_wp2
              go_ret
              exact ⟨rfl, bel0 HB7.out (belN' _ _)⟩
            | succ gh =>
              have hjm : j < mg := by omega
              have hji : (j : Int) < mg := by omega
              obtain ⟨b1, o1, rfl, hG1⟩ := HXG.out.fd (fun e => by have := HMG.out; rw [e] at this; simp at this; omega)
              obtain ⟨b2, o2, rfl, hG2⟩ := HXW.out.fd (fun e => by have := HMG.out; rw [e] at this; simp at this; omega)
              obtain ⟨g1, gA1⟩ := hG1 w7 (Below.refl _ _)
              obtain ⟨g2, gA2⟩ := hG2 w7 (Below.refl _ _)
              obtain ⟨p0, p1, p2⟩ := gA1 j (HMG.out ▸ hjm)
              obtain ⟨r0, r1, r2⟩ := gA2 j (HMG.out ▸ hjm)
              clear hG1 hG2 gA1 gA2
              have hq1 := fun W => eqFold_self W (Nth M j).1 (Nth M j).2.1 (Nth M j).2.2
              generalize Nth M j = x at *
              obtain ⟨xa, xb, xc⟩ := x
              simp only at p0 p1 p2 r0 r1 r2 hq1
              go_wp2
              go_quiet (fail)
              go_wp2
              go_roundg gh
              case measure => omega
              case rel => exact ⟨j + 1, q + nq, by omega, by go_num, rfl⟩

      | succ gh =>
        have hlt : k < n := by omega
        have hki : (k : Int) < n := by omega
        obtain ⟨bb, off, rfl, hG⟩ := HR3.out.fd (fun e => by have := HN.out; rw [e] at this; simp at this; omega)
        obtain ⟨g0, gA⟩ := hG _ HB.out
        obtain ⟨x0, x1, x2⟩ := gA k (HN.out ▸ hlt)
        have hml : m ≤ 1000000 := by have := HCL.out k (by rw [← HN.out]; omega); have := HM.out; omega
        have HSN := Lib.hid (cl_snoc rows l k (HN.out ▸ hlt))
        have HNE : Hid ((Value.slice A1 m c1).ownBlock ≠ some wr.heap.size) := Lib.hid fun e => by have := (HO.out.lt _ e).2; omega
        clear hG gA HCL HRG HRF HSELF HX3 HR3
        obtain ⟨s, hsx⟩ : ∃ s, s = clV rows (l.take k) := ⟨_, rfl⟩
        obtain ⟨s', hsx'⟩ : ∃ s', s' = clV rows (l.take (k + 1)) := ⟨_, rfl⟩
        rw [← hsx] at HM HO HSN ⊢
        rw [← hsx'] at HSN
        have HSX := Lib.hid hsx'
        clear hsx hsx'
        generalize Nth l k = x at *
        obtain ⟨xa, xb, xc⟩ := x
        obtain ⟨L, en⟩ := s
        simp only at x0 x1 x2 HM HO
        have HST := HSN.out
        unfold clStep at HST
        simp only at HST
        clear HSN
        by_cases ha : xa < 0
        · rw [show max xa 0 = 0 by omega] at HST
          by_cases hb : rows < xb
          · rw [show min xb rows = rows by omega] at HST
            obtain ⟨W1, hW1⟩ : ∃ W1, W1 = wr.alloc (.cells #[.int .i64 0, .int .i64 rows, .int .u64 xc] 47) := ⟨_, rfl⟩
            have HBW : Hid (Below wr.heap.size wr W1) := Lib.hid (by rw [hW1]; exact belA (Below.refl wr.heap.size wr) _)
            have hW1s : W1.heap.size = wr.heap.size + 1 := by rw [hW1]; simp
            have HY : Hid (W1.heap[wr.heap.size]? = some (.cells #[.int .i64 0, .int .i64 rows, .int .u64 xc] 47 (0, 0))) := Lib.hid (by rw [hW1]; exact heap_alloc_new wr _)
            have HOW : Hid (W1.ownsRow w3.heap.size 47 3 (.slice A1 m c1) m (rowsV encF L)) := Lib.hid (own_pastK HO.out HBW.out)
            have HB1 := Lib.hid (bel0 HB.out HBW.out)
            have hs1 : w3.heap.size ≤ W1.heap.size := by omega
            have HONE := Lib.hid (encF_one (0, rows, xc))
            have HL3 := Lib.hid (encF_len (0, rows, xc))
            have HTK : Hid (rowsV encF L ++ encF (0, rows, xc) = rowsV encF (L ++ [(0, rows, xc)])) := Lib.hid (by rw [rowsV_app]; simp [rowsV])
            have HML : Hid (m + 1 = (L ++ [(0, rows, xc)]).length) := Lib.hid (by rw [List.length_append, ← HM.out]; rfl)
            have HN3W : Hid (∀ t, ∀ (i : Nat) (u : Value), (encF (0, rows, xc))[i]? = some u → (W1.alloc (.cells #[.int .i64 0, .int .i64 rows, .int .u64 xc] t)).cell? ((⟨wr.heap.size + 1, 0, none⟩ : Addr).add i) = some u) := Lib.hid fun t => by rw [← hW1s]; exact news3 W1 _ _ rfl t
            have HAF : Hid (∀ (o : Obj) (w5 : World), (W1.alloc o).grownBy w5 (Value.slice A1 m c1).ownBlock → w5.heap[wr.heap.size]? = some (.cells #[.int .i64 0, .int .i64 rows, .int .u64 xc] 47 (0, 0)) ∧ w3.heap.size ≤ w5.heap.size ∧ Below w3.heap.size w3 w5) := Lib.hid fun o w5 hg => by
              have hgs := hg.size
              rw [World.size_alloc] at hgs
              refine ⟨((hg.block wr.heap.size (by rw [World.size_alloc]; omega) (fun e => HNE.out e.symm)).trans ((belA (Below.refl W1.heap.size W1) o).block _ (by omega))).trans HY.out, by omega, own_below (HOW.out.alloc o) (HB1.out.alloc hs1 o) (by rw [World.size_alloc]; omega) hg⟩
            have HBS : Hid (w3.heap.size ≤ W1.heap.size ∧ Below w3.heap.size w3 W1) := Lib.hid ⟨hs1, HB1.out⟩
            clear HY hs1 HB1
            by_cases h2 : 0 < rows
            · by_cases h1 : en ≤ 0
              · rw [if_pos ⟨h1, h2⟩] at HST
                have HS' := Lib.hid (HSX.out.symm.trans HST)
                clear HST HSX
                generalize encF (0, rows, xc) = nw at *
                generalize rowsV encF L = os at *
                subst hW1
                go_wp2_with (at_builtin; go_must (refine wpList_append_own _ rfl _ _ 22 rfl w3.heap.size 47 i0 _ 3 24 Try.underlying22 hi0 hz0 hz1 hz2 rfl (by decide) (.slice A1 m c1) m os rfl (HOW.out.alloc _) ⟨wr.heap.size + 1, 0, none⟩ 1 1 nw rfl HL3.out (HN3W.out _) HONE.out (by unfold maxLen; omega) (by omega) (by rw [World.size_alloc]; exact Nat.le_trans HBS.out.1 (Nat.le_succ _)) ?_; intro v5 w5 hown5 hgrow5 _; obtain ⟨A5, c5, rfl, _⟩ := own_formK hown5; have HO5 := Lib.hid hown5; obtain ⟨y5, hs5, hb5⟩ := HAF.out _ _ hgrow5; have t1 := cell_of_row _ _ 1 _ _ _ y5; have HB5 := Lib.hid hb5; clear hown5 hgrow5 y5 hb5))
                go_roundg gh
                case measure => omega
                case rel =>
                  have ho5 := HO5.out
                  rw [HTK.out] at ho5
                  rw [HML.out] at ho5 ⊢
                  refine ⟨k + 1, _, A5, c5, by omega, by go_num, by rw [HS'.out], rfl, hs5, Lib.hid (by rw [HS'.out]), Lib.hid (by rw [HS'.out]; exact ho5), HB5⟩
              · rw [if_neg (fun h => h1 h.1)] at HST
                have HS' := Lib.hid (HSX.out.symm.trans HST)
                clear HST HSX
                subst hW1
                go_wp2
                go_roundg gh
                case measure => omega
                case rel =>
                  refine ⟨k + 1, m, A1, c1, by omega, by go_num, by rw [HS'.out], rfl, HBS.out.1, Lib.hid (by rw [HS'.out]; exact HM.out), Lib.hid (by rw [HS'.out]; exact HOW.out), Lib.hid HBS.out.2⟩
            · rw [if_neg (fun h => h2 h.2)] at HST
              have HS' := Lib.hid (HSX.out.symm.trans HST)
              clear HST HSX
              subst hW1
              go_wp2
              go_roundg gh
              case measure => omega
              case rel =>
                refine ⟨k + 1, m, A1, c1, by omega, by go_num, by rw [HS'.out], rfl, HBS.out.1, Lib.hid (by rw [HS'.out]; exact HM.out), Lib.hid (by rw [HS'.out]; exact HOW.out), Lib.hid HBS.out.2⟩
          · rw [show min xb rows = xb by omega] at HST
            obtain ⟨W1, hW1⟩ : ∃ W1, W1 = wr.alloc (.cells #[.int .i64 0, .int .i64 xb, .int .u64 xc] 47) := ⟨_, rfl⟩
            have HBW : Hid (Below wr.heap.size wr W1) := Lib.hid (by rw [hW1]; exact belA (Below.refl wr.heap.size wr) _)
            have hW1s : W1.heap.size = wr.heap.size + 1 := by rw [hW1]; simp
            have HY : Hid (W1.heap[wr.heap.size]? = some (.cells #[.int .i64 0, .int .i64 xb, .int .u64 xc] 47 (0, 0))) := Lib.hid (by rw [hW1]; exact heap_alloc_new wr _)
            have HOW : Hid (W1.ownsRow w3.heap.size 47 3 (.slice A1 m c1) m (rowsV encF L)) := Lib.hid (own_pastK HO.out HBW.out)
            have HB1 := Lib.hid (bel0 HB.out HBW.out)
            have hs1 : w3.heap.size ≤ W1.heap.size := by omega
            have HONE := Lib.hid (encF_one (0, xb, xc))
            have HL3 := Lib.hid (encF_len (0, xb, xc))
            have HTK : Hid (rowsV encF L ++ encF (0, xb, xc) = rowsV encF (L ++ [(0, xb, xc)])) := Lib.hid (by rw [rowsV_app]; simp [rowsV])
            have HML : Hid (m + 1 = (L ++ [(0, xb, xc)]).length) := Lib.hid (by rw [List.length_append, ← HM.out]; rfl)
            have HN3W : Hid (∀ t, ∀ (i : Nat) (u : Value), (encF (0, xb, xc))[i]? = some u → (W1.alloc (.cells #[.int .i64 0, .int .i64 xb, .int .u64 xc] t)).cell? ((⟨wr.heap.size + 1, 0, none⟩ : Addr).add i) = some u) := Lib.hid fun t => by rw [← hW1s]; exact news3 W1 _ _ rfl t
            have HAF : Hid (∀ (o : Obj) (w5 : World), (W1.alloc o).grownBy w5 (Value.slice A1 m c1).ownBlock → w5.heap[wr.heap.size]? = some (.cells #[.int .i64 0, .int .i64 xb, .int .u64 xc] 47 (0, 0)) ∧ w3.heap.size ≤ w5.heap.size ∧ Below w3.heap.size w3 w5) := Lib.hid fun o w5 hg => by
              have hgs := hg.size
              rw [World.size_alloc] at hgs
              refine ⟨((hg.block wr.heap.size (by rw [World.size_alloc]; omega) (fun e => HNE.out e.symm)).trans ((belA (Below.refl W1.heap.size W1) o).block _ (by omega))).trans HY.out, by omega, own_below (HOW.out.alloc o) (HB1.out.alloc hs1 o) (by rw [World.size_alloc]; omega) hg⟩
            have HBS : Hid (w3.heap.size ≤ W1.heap.size ∧ Below w3.heap.size w3 W1) := Lib.hid ⟨hs1, HB1.out⟩
            clear HY hs1 HB1
            by_cases h2 : 0 < xb
            · by_cases h1 : en ≤ 0
              · rw [if_pos ⟨h1, h2⟩] at HST
                have HS' := Lib.hid (HSX.out.symm.trans HST)
                clear HST HSX
                generalize encF (0, xb, xc) = nw at *
                generalize rowsV encF L = os at *
                subst hW1
                go_wp2_with (at_builtin; go_must (refine wpList_append_own _ rfl _ _ 22 rfl w3.heap.size 47 i0 _ 3 24 Try.underlying22 hi0 hz0 hz1 hz2 rfl (by decide) (.slice A1 m c1) m os rfl (HOW.out.alloc _) ⟨wr.heap.size + 1, 0, none⟩ 1 1 nw rfl HL3.out (HN3W.out _) HONE.out (by unfold maxLen; omega) (by omega) (by rw [World.size_alloc]; exact Nat.le_trans HBS.out.1 (Nat.le_succ _)) ?_; intro v5 w5 hown5 hgrow5 _; obtain ⟨A5, c5, rfl, _⟩ := own_formK hown5; have HO5 := Lib.hid hown5; obtain ⟨y5, hs5, hb5⟩ := HAF.out _ _ hgrow5; have t1 := cell_of_row _ _ 1 _ _ _ y5; have HB5 := Lib.hid hb5; clear hown5 hgrow5 y5 hb5))
                go_roundg gh
                case measure => omega
                case rel =>
                  have ho5 := HO5.out
                  rw [HTK.out] at ho5
                  rw [HML.out] at ho5 ⊢
                  refine ⟨k + 1, _, A5, c5, by omega, by go_num, by rw [HS'.out], rfl, hs5, Lib.hid (by rw [HS'.out]), Lib.hid (by rw [HS'.out]; exact ho5), HB5⟩
              · rw [if_neg (fun h => h1 h.1)] at HST
                have HS' := Lib.hid (HSX.out.symm.trans HST)
                clear HST HSX
                subst hW1
                go_wp2
                go_roundg gh
                case measure => omega
                case rel =>
                  refine ⟨k + 1, m, A1, c1, by omega, by go_num, by rw [HS'.out], rfl, HBS.out.1, Lib.hid (by rw [HS'.out]; exact HM.out), Lib.hid (by rw [HS'.out]; exact HOW.out), Lib.hid HBS.out.2⟩
            · rw [if_neg (fun h => h2 h.2)] at HST
              have HS' := Lib.hid (HSX.out.symm.trans HST)
              clear HST HSX
              subst hW1
              go_wp2
              go_roundg gh
              case measure => omega
              case rel =>
                refine ⟨k + 1, m, A1, c1, by omega, by go_num, by rw [HS'.out], rfl, HBS.out.1, Lib.hid (by rw [HS'.out]; exact HM.out), Lib.hid (by rw [HS'.out]; exact HOW.out), Lib.hid HBS.out.2⟩
        · rw [show max xa 0 = xa by omega] at HST
          by_cases hb : rows < xb
          · rw [show min xb rows = rows by omega] at HST
            obtain ⟨W1, hW1⟩ : ∃ W1, W1 = wr.alloc (.cells #[.int .i64 xa, .int .i64 rows, .int .u64 xc] 47) := ⟨_, rfl⟩
            have HBW : Hid (Below wr.heap.size wr W1) := Lib.hid (by rw [hW1]; exact belA (Below.refl wr.heap.size wr) _)
            have hW1s : W1.heap.size = wr.heap.size + 1 := by rw [hW1]; simp
            have HY : Hid (W1.heap[wr.heap.size]? = some (.cells #[.int .i64 xa, .int .i64 rows, .int .u64 xc] 47 (0, 0))) := Lib.hid (by rw [hW1]; exact heap_alloc_new wr _)
            have HOW : Hid (W1.ownsRow w3.heap.size 47 3 (.slice A1 m c1) m (rowsV encF L)) := Lib.hid (own_pastK HO.out HBW.out)
            have HB1 := Lib.hid (bel0 HB.out HBW.out)
            have hs1 : w3.heap.size ≤ W1.heap.size := by omega
            have HONE := Lib.hid (encF_one (xa, rows, xc))
            have HL3 := Lib.hid (encF_len (xa, rows, xc))
            have HTK : Hid (rowsV encF L ++ encF (xa, rows, xc) = rowsV encF (L ++ [(xa, rows, xc)])) := Lib.hid (by rw [rowsV_app]; simp [rowsV])
            have HML : Hid (m + 1 = (L ++ [(xa, rows, xc)]).length) := Lib.hid (by rw [List.length_append, ← HM.out]; rfl)
            have HN3W : Hid (∀ t, ∀ (i : Nat) (u : Value), (encF (xa, rows, xc))[i]? = some u → (W1.alloc (.cells #[.int .i64 xa, .int .i64 rows, .int .u64 xc] t)).cell? ((⟨wr.heap.size + 1, 0, none⟩ : Addr).add i) = some u) := Lib.hid fun t => by rw [← hW1s]; exact news3 W1 _ _ rfl t
            have HAF : Hid (∀ (o : Obj) (w5 : World), (W1.alloc o).grownBy w5 (Value.slice A1 m c1).ownBlock → w5.heap[wr.heap.size]? = some (.cells #[.int .i64 xa, .int .i64 rows, .int .u64 xc] 47 (0, 0)) ∧ w3.heap.size ≤ w5.heap.size ∧ Below w3.heap.size w3 w5) := Lib.hid fun o w5 hg => by
              have hgs := hg.size
              rw [World.size_alloc] at hgs
              refine ⟨((hg.block wr.heap.size (by rw [World.size_alloc]; omega) (fun e => HNE.out e.symm)).trans ((belA (Below.refl W1.heap.size W1) o).block _ (by omega))).trans HY.out, by omega, own_below (HOW.out.alloc o) (HB1.out.alloc hs1 o) (by rw [World.size_alloc]; omega) hg⟩
            have HBS : Hid (w3.heap.size ≤ W1.heap.size ∧ Below w3.heap.size w3 W1) := Lib.hid ⟨hs1, HB1.out⟩
            clear HY hs1 HB1
            by_cases h2 : xa < rows
            · by_cases h1 : en ≤ xa
              · rw [if_pos ⟨h1, h2⟩] at HST
                have HS' := Lib.hid (HSX.out.symm.trans HST)
                clear HST HSX
                generalize encF (xa, rows, xc) = nw at *
                generalize rowsV encF L = os at *
                subst hW1
                go_wp2_with (at_builtin; go_must (refine wpList_append_own _ rfl _ _ 22 rfl w3.heap.size 47 i0 _ 3 24 Try.underlying22 hi0 hz0 hz1 hz2 rfl (by decide) (.slice A1 m c1) m os rfl (HOW.out.alloc _) ⟨wr.heap.size + 1, 0, none⟩ 1 1 nw rfl HL3.out (HN3W.out _) HONE.out (by unfold maxLen; omega) (by omega) (by rw [World.size_alloc]; exact Nat.le_trans HBS.out.1 (Nat.le_succ _)) ?_; intro v5 w5 hown5 hgrow5 _; obtain ⟨A5, c5, rfl, _⟩ := own_formK hown5; have HO5 := Lib.hid hown5; obtain ⟨y5, hs5, hb5⟩ := HAF.out _ _ hgrow5; have t1 := cell_of_row _ _ 1 _ _ _ y5; have HB5 := Lib.hid hb5; clear hown5 hgrow5 y5 hb5))
                go_roundg gh
                case measure => omega
                case rel =>
                  have ho5 := HO5.out
                  rw [HTK.out] at ho5
                  rw [HML.out] at ho5 ⊢
                  refine ⟨k + 1, _, A5, c5, by omega, by go_num, by rw [HS'.out], rfl, hs5, Lib.hid (by rw [HS'.out]), Lib.hid (by rw [HS'.out]; exact ho5), HB5⟩
              · rw [if_neg (fun h => h1 h.1)] at HST
                have HS' := Lib.hid (HSX.out.symm.trans HST)
                clear HST HSX
                subst hW1
                go_wp2
                go_roundg gh
                case measure => omega
                case rel =>
                  refine ⟨k + 1, m, A1, c1, by omega, by go_num, by rw [HS'.out], rfl, HBS.out.1, Lib.hid (by rw [HS'.out]; exact HM.out), Lib.hid (by rw [HS'.out]; exact HOW.out), Lib.hid HBS.out.2⟩
            · rw [if_neg (fun h => h2 h.2)] at HST
              have HS' := Lib.hid (HSX.out.symm.trans HST)
              clear HST HSX
              subst hW1
              go_wp2
              go_roundg gh
              case measure => omega
              case rel =>
                refine ⟨k + 1, m, A1, c1, by omega, by go_num, by rw [HS'.out], rfl, HBS.out.1, Lib.hid (by rw [HS'.out]; exact HM.out), Lib.hid (by rw [HS'.out]; exact HOW.out), Lib.hid HBS.out.2⟩
          · rw [show min xb rows = xb by omega] at HST
            obtain ⟨W1, hW1⟩ : ∃ W1, W1 = wr.alloc (.cells #[.int .i64 xa, .int .i64 xb, .int .u64 xc] 47) := ⟨_, rfl⟩
            have HBW : Hid (Below wr.heap.size wr W1) := Lib.hid (by rw [hW1]; exact belA (Below.refl wr.heap.size wr) _)
            have hW1s : W1.heap.size = wr.heap.size + 1 := by rw [hW1]; simp
            have HY : Hid (W1.heap[wr.heap.size]? = some (.cells #[.int .i64 xa, .int .i64 xb, .int .u64 xc] 47 (0, 0))) := Lib.hid (by rw [hW1]; exact heap_alloc_new wr _)
            have HOW : Hid (W1.ownsRow w3.heap.size 47 3 (.slice A1 m c1) m (rowsV encF L)) := Lib.hid (own_pastK HO.out HBW.out)
            have HB1 := Lib.hid (bel0 HB.out HBW.out)
            have hs1 : w3.heap.size ≤ W1.heap.size := by omega
            have HONE := Lib.hid (encF_one (xa, xb, xc))
            have HL3 := Lib.hid (encF_len (xa, xb, xc))
            have HTK : Hid (rowsV encF L ++ encF (xa, xb, xc) = rowsV encF (L ++ [(xa, xb, xc)])) := Lib.hid (by rw [rowsV_app]; simp [rowsV])
            have HML : Hid (m + 1 = (L ++ [(xa, xb, xc)]).length) := Lib.hid (by rw [List.length_append, ← HM.out]; rfl)
            have HN3W : Hid (∀ t, ∀ (i : Nat) (u : Value), (encF (xa, xb, xc))[i]? = some u → (W1.alloc (.cells #[.int .i64 xa, .int .i64 xb, .int .u64 xc] t)).cell? ((⟨wr.heap.size + 1, 0, none⟩ : Addr).add i) = some u) := Lib.hid fun t => by rw [← hW1s]; exact news3 W1 _ _ rfl t
            have HAF : Hid (∀ (o : Obj) (w5 : World), (W1.alloc o).grownBy w5 (Value.slice A1 m c1).ownBlock → w5.heap[wr.heap.size]? = some (.cells #[.int .i64 xa, .int .i64 xb, .int .u64 xc] 47 (0, 0)) ∧ w3.heap.size ≤ w5.heap.size ∧ Below w3.heap.size w3 w5) := Lib.hid fun o w5 hg => by
              have hgs := hg.size
              rw [World.size_alloc] at hgs
              refine ⟨((hg.block wr.heap.size (by rw [World.size_alloc]; omega) (fun e => HNE.out e.symm)).trans ((belA (Below.refl W1.heap.size W1) o).block _ (by omega))).trans HY.out, by omega, own_below (HOW.out.alloc o) (HB1.out.alloc hs1 o) (by rw [World.size_alloc]; omega) hg⟩
            have HBS : Hid (w3.heap.size ≤ W1.heap.size ∧ Below w3.heap.size w3 W1) := Lib.hid ⟨hs1, HB1.out⟩
            clear HY hs1 HB1
            by_cases h2 : xa < xb
            · by_cases h1 : en ≤ xa
              · rw [if_pos ⟨h1, h2⟩] at HST
                have HS' := Lib.hid (HSX.out.symm.trans HST)
                clear HST HSX
                generalize encF (xa, xb, xc) = nw at *
                generalize rowsV encF L = os at *
                subst hW1
                go_wp2_with (at_builtin; go_must (refine wpList_append_own _ rfl _ _ 22 rfl w3.heap.size 47 i0 _ 3 24 Try.underlying22 hi0 hz0 hz1 hz2 rfl (by decide) (.slice A1 m c1) m os rfl (HOW.out.alloc _) ⟨wr.heap.size + 1, 0, none⟩ 1 1 nw rfl HL3.out (HN3W.out _) HONE.out (by unfold maxLen; omega) (by omega) (by rw [World.size_alloc]; exact Nat.le_trans HBS.out.1 (Nat.le_succ _)) ?_; intro v5 w5 hown5 hgrow5 _; obtain ⟨A5, c5, rfl, _⟩ := own_formK hown5; have HO5 := Lib.hid hown5; obtain ⟨y5, hs5, hb5⟩ := HAF.out _ _ hgrow5; have t1 := cell_of_row _ _ 1 _ _ _ y5; have HB5 := Lib.hid hb5; clear hown5 hgrow5 y5 hb5))
                go_roundg gh
                case measure => omega
                case rel =>
                  have ho5 := HO5.out
                  rw [HTK.out] at ho5
                  rw [HML.out] at ho5 ⊢
                  refine ⟨k + 1, _, A5, c5, by omega, by go_num, by rw [HS'.out], rfl, hs5, Lib.hid (by rw [HS'.out]), Lib.hid (by rw [HS'.out]; exact ho5), HB5⟩
              · rw [if_neg (fun h => h1 h.1)] at HST
                have HS' := Lib.hid (HSX.out.symm.trans HST)
                clear HST HSX
                subst hW1
                go_wp2
                go_roundg gh
                case measure => omega
                case rel =>
                  refine ⟨k + 1, m, A1, c1, by omega, by go_num, by rw [HS'.out], rfl, HBS.out.1, Lib.hid (by rw [HS'.out]; exact HM.out), Lib.hid (by rw [HS'.out]; exact HOW.out), Lib.hid HBS.out.2⟩
            · rw [if_neg (fun h => h2 h.2)] at HST
              have HS' := Lib.hid (HSX.out.symm.trans HST)
              clear HST HSX
              subst hW1
              go_wp2
              go_roundg gh
              case measure => omega
              case rel =>
                refine ⟨k + 1, m, A1, c1, by omega, by go_num, by rw [HS'.out], rfl, HBS.out.1, Lib.hid (by rw [HS'.out]; exact HM.out), Lib.hid (by rw [HS'.out]; exact HOW.out), Lib.hid HBS.out.2⟩

  · have hli : (60 : Int) < n := by omega
    clear h hn
    go_enter Try.func6, Try.ntmps6
    go_wp2_with (go_at_call 8; (with_reducible refine (HAW.out w).mono ?_); rintro e w1 ⟨rfl, hb⟩; have HB1 := Lib.hid hb; clear hb)
    go_ret
    exact ⟨rfl, HB1.out⟩

end Go.Proofs.Ytnnmliblnmijdaa
