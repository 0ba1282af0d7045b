/- The walks of Clean and of the document's Right. -/
import Derived.Test.YtnnmliblnmijdaaD4
namespace Go.Proofs.Ytnnmliblnmijdaa
open Go.RowKit

/-- One more fold: it stays, if it isn't empty and doesn't begin ahead. -/
def clStep (rows : Int) (s : List T3 × Int) (f : T3) : List T3 × Int :=
  if s.2 ≤ max f.1 0 ∧ max f.1 0 < min f.2.1 rows then (s.1 ++ [(max f.1 0, min f.2.1 rows, f.2.2)], min f.2.1 rows) else s
def clV (rows : Int) (l : List T3) : List T3 × Int := l.foldl (clStep rows) ([], 0)
theorem cl_snoc (rows : Int) (l : List T3) (k : Nat) (h : k < l.length) : clV rows (l.take (k + 1)) = clStep rows (clV rows (l.take k)) (Nth l k) := by
  rw [take_snocT l k h]
  simp [clV]
theorem cl_len (rows : Int) (l : List T3) : ∀ k, k ≤ l.length → (clV rows (l.take k)).1.length ≤ k
  | 0, _ => by simp [clV]
  | k + 1, h => by
    rw [cl_snoc rows l k (by omega)]
    have := cl_len rows l k (by omega)
    unfold clStep
    split
    · simp; omega
    · omega
set_option maxRecDepth 100000 in
set_option maxHeartbeats 8000000 in
theorem clean_any (A : Option Addr) (l : List T3) (n c : Nat) (hn : n = l.length) (hl : n ≤ 1000000) (rows : Int) (w : World) (h : RK encF 3 w A l) :
    Calls Try.prog 19 #[.int .i64 rows, .slice A n c] w fun e w' => ∃ A' c', e = .returned (.slice A' (clV rows l).1.length c') ∧ RK encF 3 w' A' (clV rows l).1 ∧ Below w.heap.size w w' := by
  obtain ⟨i0, hi0, hz0, hz1, hz2⟩ := info_parts infoFold
  have HR := Lib.hid h
  have HN := Lib.hid hn
  have HCL := Lib.hid (cl_len rows l)
  clear h hn
  go_enter Try.func19, Try.ntmps19
  go_wp2
  go_loopg [5, 6, 8, 11] n (fun gh s5 s6 s8 s11 wx => ∃ (k m : Nat) (A1 : Option Addr) (c1 : Nat), k + gh = n ∧ s11 = .int .i64 k ∧ s6 = .int .i64 (clV rows (l.take k)).2 ∧ s5 = .slice A1 m c1 ∧ w.heap.size ≤ wx.heap.size ∧ Hid (m = (clV rows (l.take k)).1.length) ∧ Hid (wx.ownsRow w.heap.size 48 3 (.slice A1 m c1) m (rowsV encF (clV rows (l.take k)).1)) ∧ Hid (Below w.heap.size w wx))
  case atStart => exact ⟨0, 0, none, 0, by omega, rfl, rfl, rfl, Nat.le_refl _, Lib.hid rfl, Lib.hid (World.ownsRow_nil _ _ _ _), Lib.hid (Below.refl _ _)⟩
  case round =>
    obtain ⟨k, m, A1, c1, hk, rfl, rfl, rfl, hs, HM, HO, HB⟩ := hrel
    cases gk with
    | zero =>
      obtain rfl : n = k := by omega
      have HE : Hid (m = (clV rows l).1.length ∧ RK encF 3 wr A1 (clV rows l).1) := Lib.hid (by
        have ho := HO.out
        have hm := HM.out
        rw [List.take_of_length_le (by rw [← HN.out]; exact Nat.le_refl _)] at ho hm
        exact ⟨hm, RK.of_own encF_len ho hm⟩)
      clear HO HM
      generalize (clV rows (l.take n)).2 = z at *
      go_wp2
      go_ret
      exact ⟨A1, c1, by rw [← HE.out.1]; rfl, HE.out.2, HB.out⟩
    | succ gh =>
      have hlt : k < n := by omega
      have hki : (k : Int) < n := by omega
      obtain ⟨bb, off, rfl, hG⟩ := HR.out.fd (fun e => by have := HN.out; rw [e] at this; simp at this; omega)
      obtain ⟨g0, gA⟩ := hG _ HB.out
      obtain ⟨x0, x1, x2⟩ := gA k (HN.out ▸ hlt)
      have hml : m ≤ 1000000 := by have := HCL.out k (by rw [← HN.out]; omega); have := HM.out; omega
      have HSN := Lib.hid (cl_snoc rows l k (HN.out ▸ hlt))
      have HNE : Hid ((Value.slice A1 m c1).ownBlock ≠ some wr.heap.size) := Lib.hid fun e => by have := (HO.out.lt _ e).2; omega
      have HNO : Hid ((Value.slice A1 m c1).ownBlock ≠ none → True) := Lib.hid fun _ => trivial
      clear hG gA HCL
      obtain ⟨s, hsx⟩ : ∃ s, s = clV rows (l.take k) := ⟨_, rfl⟩
      obtain ⟨s', hsx'⟩ : ∃ s', s' = clV rows (l.take (k + 1)) := ⟨_, rfl⟩
      rw [← hsx] at HM HO HSN ⊢
      rw [← hsx'] at HSN
      have HSX := Lib.hid hsx'
      clear hsx hsx'
      generalize Nth l k = x at *
      obtain ⟨xa, xb, xc⟩ := x
      obtain ⟨L, en⟩ := s
      simp only at x0 x1 x2 HM HO
      have HST := HSN.out
      unfold clStep at HST
      simp only at HST
      obtain ⟨fa, hfa⟩ : ∃ fa, fa = max xa 0 := ⟨_, rfl⟩
      obtain ⟨fb, hfb⟩ : ∃ fb, fb = min xb rows := ⟨_, rfl⟩
      rw [← hfa, ← hfb] at HST
      have hq1 : (if xa < 0 then 0 else xa) = fa := by rw [hfa]; split <;> omega
      have hq2 : (if rows < xb then rows else xb) = fb := by rw [hfb]; split <;> omega
      have hm1 : max xa 0 = fa := hfa.symm
      have hm2 : min xb rows = fb := hfb.symm
      have HONE := Lib.hid (encF_one (fa, fb, xc))
      have HL3 := Lib.hid (encF_len (fa, fb, xc))
      have HN3 : Hid (∀ (W : World) t, ∀ (i : Nat) (u : Value), (encF (fa, fb, xc))[i]? = some u → (W.alloc (.cells #[.int .i64 fa, .int .i64 fb, .int .u64 xc] t)).cell? ((⟨W.heap.size, 0, none⟩ : Addr).add i) = some u) := Lib.hid fun W t => news3 W _ _ rfl t
      have HTK : Hid (rowsV encF L ++ encF (fa, fb, xc) = rowsV encF (L ++ [(fa, fb, xc)])) := Lib.hid (by rw [rowsV_app]; simp [rowsV])
      have HML : Hid (m + 1 = (L ++ [(fa, fb, xc)]).length) := Lib.hid (by rw [List.length_append, ← HM.out]; rfl)
      clear hfa hfb HSN
      -- the box, turned
      obtain ⟨W1, hW1⟩ : ∃ W1, W1 = wr.alloc (.cells #[.int .i64 fa, .int .i64 fb, .int .u64 xc] 48) := ⟨_, rfl⟩
      have HBW : Hid (Below wr.heap.size wr W1) := Lib.hid (by rw [hW1]; exact belA (Below.refl wr.heap.size wr) _)
      have hW1s : W1.heap.size = wr.heap.size + 1 := by rw [hW1]; simp
      have hW1c : W1.heap[wr.heap.size]? = some (.cells #[.int .i64 fa, .int .i64 fb, .int .u64 xc] 48 (0, 0)) := by
        rw [hW1]
        exact heap_alloc_new wr _
      have HOW : Hid (W1.ownsRow w.heap.size 48 3 (.slice A1 m c1) m (rowsV encF L)) := Lib.hid (own_pastK HO.out HBW.out)
      have HB1 := Lib.hid (bel0 HB.out HBW.out)
      have z0 := cell_of_row _ _ 0 _ _ _ hW1c
      have z1 := cell_of_row _ _ 1 _ _ _ hW1c
      have z2 := cell_of_row _ _ 2 _ _ _ hW1c
      have HY := Lib.hid hW1c
      have hs1 : w.heap.size ≤ W1.heap.size := by omega
      have HN3W : Hid (∀ t, ∀ (i : Nat) (u : Value), (encF (fa, fb, xc))[i]? = some u → (W1.alloc (.cells #[.int .i64 fa, .int .i64 fb, .int .u64 xc] t)).cell? ((⟨wr.heap.size + 1, 0, none⟩ : Addr).add i) = some u) := Lib.hid (by have := HN3.out W1; rw [hW1s] at this; exact this)
      have HAF : Hid (∀ (o : Obj) (w5 : World), (W1.alloc o).grownBy w5 (Value.slice A1 m c1).ownBlock → w5.heap[wr.heap.size]? = some (.cells #[.int .i64 fa, .int .i64 fb, .int .u64 xc] 48 (0, 0)) ∧ w.heap.size ≤ w5.heap.size ∧ Below w.heap.size w w5) := Lib.hid fun o w5 hg => by
        have hgs := hg.size
        rw [World.size_alloc] at hgs
        refine ⟨((hg.block wr.heap.size (by rw [World.size_alloc]; omega) (fun e => HNE.out e.symm)).trans ((belA (Below.refl W1.heap.size W1) o).block _ (by omega))).trans HY.out, by omega, own_below (HOW.out.alloc o) (HB1.out.alloc hs1 o) (by rw [World.size_alloc]; omega) hg⟩
      have HBS : Hid (w.heap.size ≤ W1.heap.size ∧ Below w.heap.size w W1) := Lib.hid ⟨hs1, HB1.out⟩
      clear hW1c HY hs1 HN3 HNO HB1
      by_cases h1 : en ≤ fa
      · by_cases h2 : fa < fb
        · rw [if_pos ⟨h1, h2⟩] at HST
          have HS' := Lib.hid (HSX.out.symm.trans HST)
          clear HST HSX
          generalize encF (fa, fb, xc) = nw at *
          generalize rowsV encF L = os at *
          subst hW1
          go_wp2_with (at_builtin; go_must (refine wpList_append_own _ rfl _ _ 24 rfl w.heap.size 48 i0 _ 3 24 Try.underlying24 hi0 hz0 hz1 hz2 rfl (by decide) (.slice A1 m c1) m os rfl (HOW.out.alloc _) ⟨wr.heap.size + 1, 0, none⟩ 1 1 nw rfl HL3.out (HN3W.out _) HONE.out (by unfold maxLen; omega) (by omega) (by rw [World.size_alloc]; exact Nat.le_trans HBS.out.1 (Nat.le_succ _)) ?_; intro v5 w5 hown5 hgrow5 _; obtain ⟨A5, c5, rfl, _⟩ := own_formK hown5; have HO5 := Lib.hid hown5; obtain ⟨y5, hs5, hb5⟩ := HAF.out _ _ hgrow5; have t1 := cell_of_row _ _ 1 _ _ _ y5; have HB5 := Lib.hid hb5; clear hown5 hgrow5 y5 hb5))
          go_roundg gh
          case measure => omega
          case rel =>
            have ho5 := HO5.out
            rw [HTK.out] at ho5
            rw [HML.out] at ho5 ⊢
            refine ⟨k + 1, _, A5, c5, by omega, by go_num, by rw [HS'.out], rfl, hs5, Lib.hid (by rw [HS'.out]), Lib.hid (by rw [HS'.out]; exact ho5), HB5⟩
        · rw [if_neg (fun h => h2 h.2)] at HST
          have HS' := Lib.hid (HSX.out.symm.trans HST)
          clear HST HSX
          subst hW1
          go_wp2
          go_roundg gh
          case measure => omega
          case rel =>
            refine ⟨k + 1, m, A1, c1, by omega, by go_num, by rw [HS'.out], rfl, HBS.out.1, Lib.hid (by rw [HS'.out]; exact HM.out), Lib.hid (by rw [HS'.out]; exact HOW.out), Lib.hid HBS.out.2⟩
      · rw [if_neg (fun h => h1 h.1)] at HST
        have HS' := Lib.hid (HSX.out.symm.trans HST)
        clear HST HSX
        subst hW1
        go_wp2
        go_roundg gh
        case measure => omega
        case rel =>
          refine ⟨k + 1, m, A1, c1, by omega, by go_num, by rw [HS'.out], rfl, HBS.out.1, Lib.hid (by rw [HS'.out]; exact HM.out), Lib.hid (by rw [HS'.out]; exact HOW.out), Lib.hid HBS.out.2⟩

end Go.Proofs.Ytnnmliblnmijdaa
