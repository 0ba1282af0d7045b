/- The walk of the document's Lay; the law FoldLays. -/
import Derived.Test.YtnnmliblnmijdaaC3
namespace Go.Proofs.Ytnnmliblnmijdaa
open Go.RowKit

set_option maxRecDepth 100000 in
set_option maxHeartbeats 16000000 in
theorem refLay_any (A : Option Addr) (l : List T3) (n c : Nat) (hn : n = l.length) (hl : n ≤ 60) (rows : Nat) (hM : rows ≤ 400) (w : World) (hto : ∀ i, i < n → (Nth l i).2.1 ≤ rows) (h : RK encF 3 w A l) :
    Calls Try.prog 14 #[.int .i64 (rows : Nat), .slice A n c] w fun e w' => ∃ A' c', e = .returned (.slice A' (catR l rows).length c') ∧ RK encI 3 w' A' (catR l rows) ∧ Below w.heap.size w w' := by
  obtain ⟨i0, hi0, hz0, hz1, hz2⟩ := info_parts infoItem
  have HR := Lib.hid h
  have HN := Lib.hid hn
  have HBND : Hid (∀ r i, r ≤ rows → i ≤ n → (catR l r).length + (inn l r i).1.length ≤ 30000) := Lib.hid fun r i hr hi => by
    have h1 := catR_len l r
    have h2 := inn_len l r i (by omega)
    have h3 : r * (l.length + 1) ≤ 400 * 61 := Nat.mul_le_mul (by omega) (by omega)
    omega
  have HTO := Lib.hid hto
  clear h hn hto
  go_enter Try.func14, Try.ntmps14
  go_wp2
  go_loopg [5, 6, 7, 8] rows (fun gh s5 s6 s7 s8 wx => ∃ (r m : Nat) (A1 : Option Addr) (c1 : Nat), r + gh = rows ∧ s6 = .int .i64 r ∧ s5 = .slice A1 m c1 ∧ w.heap.size ≤ wx.heap.size ∧ Hid (m = (catR l r).length) ∧ Hid (wx.ownsRow w.heap.size 40 3 (.slice A1 m c1) m (rowsV encI (catR l r))) ∧ Hid (Below w.heap.size w wx))
  case atStart => exact ⟨0, 0, none, 0, by omega, rfl, rfl, Nat.le_refl _, Lib.hid rfl, Lib.hid (World.ownsRow_nil _ _ _ _), Lib.hid (Below.refl _ _)⟩
  case round =>
    obtain ⟨r, m, A1, c1, hr, rfl, rfl, hs, HM, HO, HB⟩ := hrel
    cases gk with
    | zero =>
      obtain rfl : rows = r := by omega
      have HE := Lib.hid (RK.of_own encI_len HO.out HM.out)
      clear HO
      go_wp2
      go_ret
      exact ⟨A1, c1, by rw [← HM.out]; rfl, HE.out, HB.out⟩
    | succ gh =>
      have hrr : (r : Int) < rows := by omega
      go_wp2
      go_loopg [5, 7, 8] n (fun gh s5 s7 s8 wx => ∃ (i m : Nat) (A1 : Option Addr) (c1 : Nat), i + gh = n ∧ s8 = .int .i64 i ∧ s7 = .bool (inn l r i).2 ∧ s5 = .slice A1 m c1 ∧ w.heap.size ≤ wx.heap.size ∧ Hid (m = (catR l r ++ (inn l r i).1).length) ∧ Hid (wx.ownsRow w.heap.size 40 3 (.slice A1 m c1) m (rowsV encI (catR l r ++ (inn l r i).1))) ∧ Hid (Below w.heap.size w wx))
      case atStart => exact ⟨0, m, A1, c1, by omega, rfl, rfl, rfl, hs, Lib.hid (by rw [show (inn l r 0).1 = [] from rfl, List.append_nil]; exact HM.out), Lib.hid (by rw [show (inn l r 0).1 = [] from rfl, List.append_nil]; exact HO.out), HB⟩
      case round =>
        clear hs HM HO HB
        obtain ⟨i, m, A1, c1, hi, rfl, rfl, rfl, hs, HM, HO, HB⟩ := hrel
        have hm3 : m ≤ 60000 := by
          have h1 := HBND.out r i (by omega) (by omega)
          have h2 := HM.out
          rw [List.length_append] at h2
          omega
        cases gk with
        | zero =>
          obtain rfl : n = i := by omega
          cases hhd : (inn l r n).2 with
          | true =>
            have HC : Hid (catR l (r + 1) = catR l r ++ (inn l r n).1) := Lib.hid (by
              have e := HN.out
              rw [catR, rowI, ← e, hhd]
              simp)
            rw [← HC.out] at HM HO
            clear hhd
            go_wp2
            go_roundg gh
            case measure => omega
            case rel => exact ⟨r + 1, m, A1, c1, by omega, by go_num, rfl, hs, HM, HO, HB⟩
          | false =>
            have HC : Hid (catR l (r + 1) = (catR l r ++ (inn l r n).1) ++ [((r : Int), 0, 0)]) := Lib.hid (by
              have e := HN.out
              rw [catR, rowI, ← e, hhd, List.append_assoc]
              simp)
            have HTK : Hid (rowsV encI (catR l r ++ (inn l r n).1) ++ encI ((r : Int), 0, 0) = rowsV encI (catR l (r + 1))) := Lib.hid (by rw [HC.out, rowsV_app encI (catR l r ++ _)]; simp [rowsV])
            have HML : Hid (m + 1 = (catR l (r + 1)).length) := Lib.hid (by rw [HC.out, List.length_append, ← HM.out]; rfl)
            have HONE := Lib.hid (encI_one ((r : Int), 0, 0))
            have HL3 := Lib.hid (encI_len ((r : Int), 0, 0))
            have HN3 : Hid (∀ (W : World) t, ∀ (i : Nat) (u : Value), (encI ((r : Int), 0, 0))[i]? = some u → (W.alloc (.cells #[.int .i64 (r : Int), .int .u64 0, .int .i64 0] t)).cell? ((⟨W.heap.size, 0, none⟩ : Addr).add i) = some u) := Lib.hid fun W t => news3 W _ _ rfl t
            generalize encI ((r : Int), 0, 0) = nw at *
            obtain ⟨os, hos⟩ : ∃ os, os = rowsV encI (catR l r ++ (inn l r n).1) := ⟨_, rfl⟩
            rw [← hos] at HO HTK
            clear hos hhd
            go_wp2_with (at_builtin; go_must (refine wpList_append_own _ rfl _ _ 26 rfl w.heap.size 40 i0 _ 3 24 Try.underlying26 hi0 hz0 hz1 hz2 rfl (by decide) (.slice A1 m c1) m os rfl (HO.out.alloc _) ⟨wr.heap.size, 0, none⟩ 1 1 nw rfl HL3.out (HN3.out _ _) HONE.out (by unfold maxLen; omega) (by omega) (by first | (simp; done) | (simp; omega)) ?_; intro v5 w5 hown5 hgrow5 _; obtain ⟨A5, c5, rfl, _⟩ := own_formK hown5; have HO5 := Lib.hid hown5; have hs5 : w.heap.size ≤ w5.heap.size := (by have := hgrow5.size; simp at this; omega); have HB5 := Lib.hid (own_below (HO.out.alloc _) (HB.out.alloc hs _) (by first | (simp; done) | (simp; omega)) hgrow5); clear hown5 hgrow5))
            go_roundg gh
            case measure => omega
            case rel =>
              have ho5 := HO5.out
              rw [HTK.out] at ho5
              exact ⟨r + 1, m + 1, A5, c5, by omega, by go_num, rfl, hs5, HML, Lib.hid ho5, HB5⟩
        | succ gi =>
          have hlt : i < n := by omega
          have hii : (i : Int) < n := by omega
          obtain ⟨bb, off, rfl, hG⟩ := HR.out.fd (fun e => by have := HN.out; rw [e] at this; simp at this; omega)
          obtain ⟨g0, gA⟩ := hG _ HB.out
          obtain ⟨x0, x1, x2⟩ := gA i (HN.out ▸ hlt)
          have HSN := Lib.hid (inn_snoc l r i (HN.out ▸ hlt))
          have HXB := Lib.hid (HTO.out i hlt)
          clear hG gA
          obtain ⟨s', hsx'⟩ : ∃ s', s' = inn l r (i + 1) := ⟨_, rfl⟩
          rw [← hsx'] at HSN
          have HSX := Lib.hid hsx'
          clear hsx'
          generalize inn l r i = s at *
          generalize Nth l i = x at *
          obtain ⟨xa, xb, xc⟩ := x
          obtain ⟨L, hd⟩ := s
          simp only at x0 x1 x2 HM HO
          have HST := HSN.out
          unfold stepI at HST
          simp only at HST
          clear HSN
          by_cases h1 : xa ≤ r
          · by_cases h2 : (r : Int) < xb
            · rw [if_pos ⟨h1, h2⟩] at HST
              by_cases h3 : xa = r
              · rw [if_pos h3] at HST
                have HS' := Lib.hid (HSX.out.symm.trans HST)
                have h3b : (xa == (r : Int)) = true := by simpa using h3
                have hw : IntKind.i64.wrap (xb - r) = xb - r := IntWalk.i64_in _ (by have := HXB.out; simp only at this; omega)
                have HTK : Hid (rowsV encI (catR l r ++ L) ++ encI ((r : Int), xc, xb - r) = rowsV encI (catR l r ++ (L ++ [((r : Int), xc, xb - r)]))) := Lib.hid (by rw [← List.append_assoc, rowsV_app encI (catR l r ++ _)]; simp [rowsV])
                have HML : Hid (m + 1 = (catR l r ++ (L ++ [((r : Int), xc, xb - r)])).length) := Lib.hid (by rw [← List.append_assoc, List.length_append, ← HM.out]; rfl)
                have HONE := Lib.hid (encI_one ((r : Int), xc, xb - r))
                have HL3 := Lib.hid (encI_len ((r : Int), xc, xb - r))
                have HN3 : Hid (∀ (W : World) t, ∀ (i : Nat) (u : Value), (encI ((r : Int), xc, xb - r))[i]? = some u → (W.alloc (.cells #[.int .i64 (r : Int), .int .u64 xc, .int .i64 (xb - r)] t)).cell? ((⟨W.heap.size, 0, none⟩ : Addr).add i) = some u) := Lib.hid fun W t => news3 W _ _ rfl t
                generalize encI ((r : Int), xc, xb - r) = nw at *
                obtain ⟨os, hos⟩ : ∃ os, os = rowsV encI (catR l r ++ L) := ⟨_, rfl⟩
                rw [← hos] at HO HTK
                have HOD : Hid (wr.drew.ownsRow w.heap.size 40 3 (.slice A1 m c1) m os) := Lib.hid HO.out
                have HBD := Lib.hid HB.out.drew
                have hsd : w.heap.size ≤ wr.drew.heap.size := hs
                have h3x := Lib.hid h3
                clear hos HST HSX h3
                go_wp2
                go_region_law ((refine step_append_own' rfl _ _ 26 rfl w.heap.size 40 i0 _ 3 24 Try.underlying26 hi0 hz0 hz1 hz2 rfl (by decide) (.slice A1 m c1) m os rfl (HOD.out.alloc _) ⟨wr.heap.size, 0, none⟩ 1 1 nw rfl HL3.out (HN3.out wr.drew _) HONE.out (by unfold maxLen; omega) (by omega) (by first | (simp; done) | (simp; omega)) ?_); intro v5 w5 hown5 hgrow5 _; obtain ⟨A5, c5, rfl, _⟩ := own_formK hown5; have HO5 := Lib.hid hown5; have hs5 : w.heap.size ≤ w5.heap.size := (by have := hgrow5.size; simp at this; omega); have HB5 := Lib.hid (own_below (HOD.out.alloc _) (HBD.out.alloc hsd _) (by first | (simp; done) | (simp; omega)) hgrow5); clear hown5 hgrow5)
                all_goals
                  go_wp2
                  go_roundg gi
                  case measure => omega
                  case rel =>
                    have ho5 := HO5.out
                    rw [HTK.out] at ho5
                    exact ⟨i + 1, m + 1, A5, c5, by omega, by go_num, by rw [HS'.out], rfl, hs5, Lib.hid (by rw [HS'.out]; exact HML.out), Lib.hid (by rw [HS'.out]; exact ho5), HB5⟩
              · rw [if_neg h3] at HST
                have HS' := Lib.hid (HSX.out.symm.trans HST)
                have h3b : (xa == (r : Int)) = false := by simpa using h3
                clear HST HSX
                go_wp2
                go_roundg gi
                case measure => omega
                case rel => exact ⟨i + 1, m, A1, c1, by omega, by go_num, by rw [HS'.out], rfl, hs, Lib.hid (by rw [HS'.out]; exact HM.out), Lib.hid (by rw [HS'.out]; exact HO.out), HB⟩
            · rw [if_neg (fun h => h2 h.2)] at HST
              have HS' := Lib.hid (HSX.out.symm.trans HST)
              clear HST HSX
              go_wp2
              go_roundg gi
              case measure => omega
              case rel => exact ⟨i + 1, m, A1, c1, by omega, by go_num, by rw [HS'.out], rfl, hs, Lib.hid (by rw [HS'.out]; exact HM.out), Lib.hid (by rw [HS'.out]; exact HO.out), HB⟩
          · rw [if_neg (fun h => h1 h.1)] at HST
            have HS' := Lib.hid (HSX.out.symm.trans HST)
            clear HST HSX
            go_wp2
            go_roundg gi
            case measure => omega
            case rel => exact ⟨i + 1, m, A1, c1, by omega, by go_num, by rw [HS'.out], rfl, hs, Lib.hid (by rw [HS'.out]; exact HM.out), Lib.hid (by rw [HS'.out]; exact HO.out), HB⟩

set_option maxRecDepth 100000 in
set_option maxHeartbeats 16000000 in
theorem foldLays_law (A : Option Addr) (l : List T3) (n c : Nat) (hn : n = l.length) (rows : Int) (w : World) (h : RK encF 3 w A l) :
    Calls Try.prog 3 #[.int .i64 rows, .slice A n c] w fun e w' => e = .returned (.bool true) ∧ Below w.heap.size w w' := by
  have HAW := Lib.hid awake_any
  by_cases hl : n ≤ 60
  · have hli : ¬ (60 : Int) < n := by omega
    by_cases hmid : 400 < rows ∧ rows ≤ 200000
    · obtain ⟨hm1, hm2⟩ := hmid
      clear h hn
      go_enter Try.func3, Try.ntmps3
      go_wp2_with (go_at_call 8; (with_reducible refine (HAW.out w).mono ?_); rintro e w1 ⟨rfl, hb⟩; have HB1 := Lib.hid hb; clear hb)
      go_ret
      exact ⟨rfl, HB1.out⟩
    · have HR := Lib.hid h
      have HT := Lib.hid (fun W h => to_any A l n c hn (by omega) W h)
      have HRF := Lib.hid (fun W h => refRight_any A l n c hn (by omega) rows W h)
      have HRG := Lib.hid (fun A' c' W h => right_any A' l n c' hn (by omega) rows W h)
      by_cases hb : rows < 0 ∨ 200000 < rows ∨ rightB rows 0 l = false
      · have HL := Lib.hid (fun A' c' W h => lay_bad A' l n c' hn (by omega) rows hb W h)
        have HC := Lib.hid (fun A' c' W h => count_bad A' l n c' hn (by omega) rows hb W h)
        clear h hn
        by_cases h0 : rows < 0
        · have hz : ¬ 400 < rows := by omega
          clear hb hmid
          obtain ⟨rr, hrr⟩ : ∃ rr, rr = rightB rows 0 l := ⟨_, rfl⟩
          rw [← hrr] at HRF HRG
          clear hrr
          cases rr with
          | true =>
            go_enter Try.func3, Try.ntmps3
            go_wp2_with (first
              | (go_at_call 8; (with_reducible refine (HAW.out w).mono ?_); rintro e w1 ⟨rfl, hb⟩; have HR1 := Lib.hid (HR.out.past hb); have HB1 := Lib.hid hb; clear hb HR)
              | (go_at_call 9; (with_reducible refine (HT.out w1 HR1.out).mono ?_); rintro e w2 ⟨A2, c2, rfl, hq, hb⟩; have HR2 := Lib.hid (HR1.out.past hb); have HX2 := Lib.hid hq; have HB2 := Lib.hid (bel0 HB1.out hb); clear hb hq HR1 HB1 HT)
              | (go_at_call 10; (with_reducible refine (HL.out A2 c2 w2 HX2.out).mono ?_); rintro e w3 ⟨rfl, hb⟩; have HR3 := Lib.hid (HR2.out.past hb); have HX3 := Lib.hid (HX2.out.past hb); have HB3 := Lib.hid (bel0 HB2.out hb); clear hb HR2 HB2 HX2 HL)
              | (go_at_call 11; (with_reducible refine (HC.out A2 c2 w3 HX3.out).mono ?_); rintro e w4 ⟨rfl, hb⟩; have HR4 := Lib.hid (HR3.out.past hb); have HX4 := Lib.hid (HX3.out.past hb); have HB4 := Lib.hid (bel0 HB3.out hb); clear hb HR3 HB3 HX3 HC)
              | (go_at_call 12; (with_reducible refine (HRF.out w4 HR4.out).mono ?_); rintro e w5 ⟨rfl, hb⟩; have HX5 := Lib.hid (HX4.out.past hb); have HB5 := Lib.hid (bel0 HB4.out hb); clear hb HR4 HB4 HX4 HRF)
              | (go_at_call 13; (with_reducible refine (HRG.out A2 c2 w5 HX5.out).mono ?_); rintro e w6 ⟨rfl, hb⟩; have HB6 := Lib.hid (bel0 HB5.out hb); clear hb HX5 HB5 HRG))
            go_ret
            exact ⟨rfl, HB6.out⟩
          | false =>
            go_enter Try.func3, Try.ntmps3
            go_wp2_with (first
              | (go_at_call 8; (with_reducible refine (HAW.out w).mono ?_); rintro e w1 ⟨rfl, hb⟩; have HR1 := Lib.hid (HR.out.past hb); have HB1 := Lib.hid hb; clear hb HR)
              | (go_at_call 9; (with_reducible refine (HT.out w1 HR1.out).mono ?_); rintro e w2 ⟨A2, c2, rfl, hq, hb⟩; have HR2 := Lib.hid (HR1.out.past hb); have HX2 := Lib.hid hq; have HB2 := Lib.hid (bel0 HB1.out hb); clear hb hq HR1 HB1 HT)
              | (go_at_call 10; (with_reducible refine (HL.out A2 c2 w2 HX2.out).mono ?_); rintro e w3 ⟨rfl, hb⟩; have HR3 := Lib.hid (HR2.out.past hb); have HX3 := Lib.hid (HX2.out.past hb); have HB3 := Lib.hid (bel0 HB2.out hb); clear hb HR2 HB2 HX2 HL)
              | (go_at_call 11; (with_reducible refine (HC.out A2 c2 w3 HX3.out).mono ?_); rintro e w4 ⟨rfl, hb⟩; have HR4 := Lib.hid (HR3.out.past hb); have HX4 := Lib.hid (HX3.out.past hb); have HB4 := Lib.hid (bel0 HB3.out hb); clear hb HR3 HB3 HX3 HC)
              | (go_at_call 12; (with_reducible refine (HRF.out w4 HR4.out).mono ?_); rintro e w5 ⟨rfl, hb⟩; have HX5 := Lib.hid (HX4.out.past hb); have HB5 := Lib.hid (bel0 HB4.out hb); clear hb HR4 HB4 HX4 HRF)
              | (go_at_call 13; (with_reducible refine (HRG.out A2 c2 w5 HX5.out).mono ?_); rintro e w6 ⟨rfl, hb⟩; have HB6 := Lib.hid (bel0 HB5.out hb); clear hb HX5 HB5 HRG))
            go_ret
            exact ⟨rfl, HB6.out⟩
        · by_cases h1 : 200000 < rows
          · have hz : 400 < rows := by omega
            have hz2 : ¬ rows ≤ 200000 := by omega
            clear hb hmid
            obtain ⟨rr, hrr⟩ : ∃ rr, rr = rightB rows 0 l := ⟨_, rfl⟩
            rw [← hrr] at HRF HRG
            clear hrr
            cases rr with
            | true =>
              go_enter Try.func3, Try.ntmps3
              go_wp2_with (first
                | (go_at_call 8; (with_reducible refine (HAW.out w).mono ?_); rintro e w1 ⟨rfl, hb⟩; have HR1 := Lib.hid (HR.out.past hb); have HB1 := Lib.hid hb; clear hb HR)
                | (go_at_call 9; (with_reducible refine (HT.out w1 HR1.out).mono ?_); rintro e w2 ⟨A2, c2, rfl, hq, hb⟩; have HR2 := Lib.hid (HR1.out.past hb); have HX2 := Lib.hid hq; have HB2 := Lib.hid (bel0 HB1.out hb); clear hb hq HR1 HB1 HT)
                | (go_at_call 10; (with_reducible refine (HL.out A2 c2 w2 HX2.out).mono ?_); rintro e w3 ⟨rfl, hb⟩; have HR3 := Lib.hid (HR2.out.past hb); have HX3 := Lib.hid (HX2.out.past hb); have HB3 := Lib.hid (bel0 HB2.out hb); clear hb HR2 HB2 HX2 HL)
                | (go_at_call 11; (with_reducible refine (HC.out A2 c2 w3 HX3.out).mono ?_); rintro e w4 ⟨rfl, hb⟩; have HR4 := Lib.hid (HR3.out.past hb); have HX4 := Lib.hid (HX3.out.past hb); have HB4 := Lib.hid (bel0 HB3.out hb); clear hb HR3 HB3 HX3 HC)
                | (go_at_call 12; (with_reducible refine (HRF.out w4 HR4.out).mono ?_); rintro e w5 ⟨rfl, hb⟩; have HX5 := Lib.hid (HX4.out.past hb); have HB5 := Lib.hid (bel0 HB4.out hb); clear hb HR4 HB4 HX4 HRF)
                | (go_at_call 13; (with_reducible refine (HRG.out A2 c2 w5 HX5.out).mono ?_); rintro e w6 ⟨rfl, hb⟩; have HB6 := Lib.hid (bel0 HB5.out hb); clear hb HX5 HB5 HRG))
              go_ret
              exact ⟨rfl, HB6.out⟩
            | false =>
              go_enter Try.func3, Try.ntmps3
              go_wp2_with (first
                | (go_at_call 8; (with_reducible refine (HAW.out w).mono ?_); rintro e w1 ⟨rfl, hb⟩; have HR1 := Lib.hid (HR.out.past hb); have HB1 := Lib.hid hb; clear hb HR)
                | (go_at_call 9; (with_reducible refine (HT.out w1 HR1.out).mono ?_); rintro e w2 ⟨A2, c2, rfl, hq, hb⟩; have HR2 := Lib.hid (HR1.out.past hb); have HX2 := Lib.hid hq; have HB2 := Lib.hid (bel0 HB1.out hb); clear hb hq HR1 HB1 HT)
                | (go_at_call 10; (with_reducible refine (HL.out A2 c2 w2 HX2.out).mono ?_); rintro e w3 ⟨rfl, hb⟩; have HR3 := Lib.hid (HR2.out.past hb); have HX3 := Lib.hid (HX2.out.past hb); have HB3 := Lib.hid (bel0 HB2.out hb); clear hb HR2 HB2 HX2 HL)
                | (go_at_call 11; (with_reducible refine (HC.out A2 c2 w3 HX3.out).mono ?_); rintro e w4 ⟨rfl, hb⟩; have HR4 := Lib.hid (HR3.out.past hb); have HX4 := Lib.hid (HX3.out.past hb); have HB4 := Lib.hid (bel0 HB3.out hb); clear hb HR3 HB3 HX3 HC)
                | (go_at_call 12; (with_reducible refine (HRF.out w4 HR4.out).mono ?_); rintro e w5 ⟨rfl, hb⟩; have HX5 := Lib.hid (HX4.out.past hb); have HB5 := Lib.hid (bel0 HB4.out hb); clear hb HR4 HB4 HX4 HRF)
                | (go_at_call 13; (with_reducible refine (HRG.out A2 c2 w5 HX5.out).mono ?_); rintro e w6 ⟨rfl, hb⟩; have HB6 := Lib.hid (bel0 HB5.out hb); clear hb HX5 HB5 HRG))
              go_ret
              exact ⟨rfl, HB6.out⟩
          · have hr : rightB rows 0 l = false := (hb.resolve_left h0).resolve_left h1
            have hz : ¬ 400 < rows := fun h => hmid ⟨h, by omega⟩
            rw [hr] at HRF HRG
            clear hb hmid hr
            go_enter Try.func3, Try.ntmps3
            go_wp2_with (first
              | (go_at_call 8; (with_reducible refine (HAW.out w).mono ?_); rintro e w1 ⟨rfl, hb⟩; have HR1 := Lib.hid (HR.out.past hb); have HB1 := Lib.hid hb; clear hb HR)
              | (go_at_call 9; (with_reducible refine (HT.out w1 HR1.out).mono ?_); rintro e w2 ⟨A2, c2, rfl, hq, hb⟩; have HR2 := Lib.hid (HR1.out.past hb); have HX2 := Lib.hid hq; have HB2 := Lib.hid (bel0 HB1.out hb); clear hb hq HR1 HB1 HT)
              | (go_at_call 10; (with_reducible refine (HL.out A2 c2 w2 HX2.out).mono ?_); rintro e w3 ⟨rfl, hb⟩; have HR3 := Lib.hid (HR2.out.past hb); have HX3 := Lib.hid (HX2.out.past hb); have HB3 := Lib.hid (bel0 HB2.out hb); clear hb HR2 HB2 HX2 HL)
              | (go_at_call 11; (with_reducible refine (HC.out A2 c2 w3 HX3.out).mono ?_); rintro e w4 ⟨rfl, hb⟩; have HR4 := Lib.hid (HR3.out.past hb); have HX4 := Lib.hid (HX3.out.past hb); have HB4 := Lib.hid (bel0 HB3.out hb); clear hb HR3 HB3 HX3 HC)
              | (go_at_call 12; (with_reducible refine (HRF.out w4 HR4.out).mono ?_); rintro e w5 ⟨rfl, hb⟩; have HX5 := Lib.hid (HX4.out.past hb); have HB5 := Lib.hid (bel0 HB4.out hb); clear hb HR4 HB4 HX4 HRF)
              | (go_at_call 13; (with_reducible refine (HRG.out A2 c2 w5 HX5.out).mono ?_); rintro e w6 ⟨rfl, hb⟩; have HB6 := Lib.hid (bel0 HB5.out hb); clear hb HX5 HB5 HRG))
            go_ret
            exact ⟨rfl, HB6.out⟩
      · have h0 : ¬ rows < 0 := fun h => hb (.inl h)
        have h1 : ¬ 200000 < rows := fun h => hb (.inr (.inl h))
        have hr : rightB rows 0 l = true := by
          cases hrr : rightB rows 0 l with
          | true => rfl
          | false => exact absurd (.inr (.inr hrr)) hb
        have hz : ¬ 400 < rows := fun h => hmid ⟨h, by omega⟩
        rw [hr] at HRF HRG
        obtain ⟨rn, hrn⟩ : ∃ rn : Nat, rows = rn := ⟨rows.toNat, by omega⟩
        have HL := Lib.hid (fun A' c' W h => lay_any A' l n c' hn (by omega) rows (by omega) (by omega) hr W h)
        have HC := Lib.hid (fun A' c' W h => count_any A' l n c' hn (by omega) rows (by omega) (by omega) hr W h)
        have HV : Hid (∀ W, RK encF 3 W A l → Calls Try.prog 14 #[.int .i64 rows, .slice A n c] W fun e w' => ∃ A' c', e = .returned (.slice A' (layV rows l).length c') ∧ RK encI 3 w' A' (layV rows l) ∧ Below W.heap.size W w') := Lib.hid fun W h => by
          have hc := cat_all (rows := rn) (l := l) (by rw [← hrn]; exact hr)
          have := refLay_any A l n c hn hl rn (by omega) W (fun i hi => by rw [← hrn]; exact (right_at hr i (hn ▸ hi)).2.2.2) h
          rw [hc, ← hrn] at this
          exact this
        have hlen := layV_len hr (by omega)
        rw [← hlen] at HC
        have hl4 : (layV rows l).length ≤ 1000000 := by
          have := cnt_in hr (by omega) l.length (Nat.le_refl _)
          rw [List.take_length] at this
          omega
        have HS : Hid (∀ A1 A2 c1 c2 W, RK encI 3 W A1 (layV rows l) → RK encI 3 W A2 (layV rows l) → Calls Try.prog 15 #[.slice A1 (layV rows l).length c1, .slice A2 (layV rows l).length c2] W fun e w' => e = .returned (.bool true) ∧ Below W.heap.size W w') := Lib.hid fun A1 A2 c1 c2 W h1 h2 => by
          have := same_any A1 A2 _ _ _ _ c1 c2 rfl rfl hl4 W h1 h2
          rwa [decide_eq_true rfl] at this
        clear h hn hb hmid hr hrn hlen hl4
        generalize layV rows l = M at *
        generalize M.length = q at *
        go_enter Try.func3, Try.ntmps3
        go_wp2_with (first
          | (go_at_call 8; (with_reducible refine (HAW.out w).mono ?_); rintro e w1 ⟨rfl, hb⟩; have HR1 := Lib.hid (HR.out.past hb); have HB1 := Lib.hid hb; clear hb HR)
          | (go_at_call 9; (with_reducible refine (HT.out w1 HR1.out).mono ?_); rintro e w2 ⟨A2, c2, rfl, hq, hb⟩; have HR2 := Lib.hid (HR1.out.past hb); have HX2 := Lib.hid hq; have HB2 := Lib.hid (bel0 HB1.out hb); clear hb hq HR1 HB1 HT)
          | (go_at_call 10; (with_reducible refine (HL.out A2 c2 w2 HX2.out).mono ?_); rintro e w3 ⟨A3, c3, rfl, hq, hb⟩; have HR3 := Lib.hid (HR2.out.past hb); have HX3 := Lib.hid (HX2.out.past hb); have HG3 := Lib.hid hq; have HB3 := Lib.hid (bel0 HB2.out hb); clear hb hq HR2 HB2 HX2 HL)
          | (go_at_call 11; (with_reducible refine (HC.out A2 c2 w3 HX3.out).mono ?_); rintro e w4 ⟨rfl, hb⟩; have HR4 := Lib.hid (HR3.out.past hb); have HX4 := Lib.hid (HX3.out.past hb); have HG4 := Lib.hid (HG3.out.past hb); have HB4 := Lib.hid (bel0 HB3.out hb); clear hb HR3 HB3 HX3 HG3 HC)
          | (go_at_call 12; (with_reducible refine (HRF.out w4 HR4.out).mono ?_); rintro e w5 ⟨rfl, hb⟩; have HR5 := Lib.hid (HR4.out.past hb); have HX5 := Lib.hid (HX4.out.past hb); have HG5 := Lib.hid (HG4.out.past hb); have HB5 := Lib.hid (bel0 HB4.out hb); clear hb HR4 HB4 HX4 HG4 HRF)
          | (go_at_call 13; (with_reducible refine (HRG.out A2 c2 w5 HX5.out).mono ?_); rintro e w6 ⟨rfl, hb⟩; have HR6 := Lib.hid (HR5.out.past hb); have HG6 := Lib.hid (HG5.out.past hb); have HB6 := Lib.hid (bel0 HB5.out hb); clear hb HX5 HB5 HR5 HG5 HRG)
          | (go_at_call 14; (with_reducible refine (HV.out w6 HR6.out).mono ?_); rintro e w7 ⟨A7, c7, rfl, hq, hb⟩; have HG7 := Lib.hid (HG6.out.past hb); have HK7 := Lib.hid hq; have HB7 := Lib.hid (bel0 HB6.out hb); clear hb hq HB6 HR6 HG6 HV)
          | (go_at_call 15; (with_reducible refine (HS.out A3 A7 c3 c7 w7 HG7.out HK7.out).mono ?_); rintro e w8 ⟨rfl, hb⟩; have HB8 := Lib.hid (bel0 HB7.out hb); clear hb HB7 HG7 HK7 HS))
        go_ret
        exact ⟨rfl, HB8.out⟩
  · have hli : (60 : Int) < n := by omega
    clear h hn
    go_enter Try.func3, Try.ntmps3
    go_wp2_with (go_at_call 8; (with_reducible refine (HAW.out w).mono ?_); rintro e w1 ⟨rfl, hb⟩; have HB1 := Lib.hid hb; clear hb)
    go_ret
    exact ⟨rfl, HB1.out⟩

end Go.Proofs.Ytnnmliblnmijdaa
