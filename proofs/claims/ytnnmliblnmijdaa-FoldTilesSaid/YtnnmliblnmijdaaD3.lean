/- The walks of fold.show and Lay. -/
import Derived.Test.YtnnmliblnmijdaaD2
namespace Go.Proofs.Ytnnmliblnmijdaa
open Go.RowKit

/-- Rows that no fold hides. -/
def showL (a : Int) : Nat → List T3
  | 0 => []
  | m + 1 => showL a m ++ [(a + m, 0, 0)]
theorem showL_len (a : Int) : ∀ m, (showL a m).length = m
  | 0 => rfl
  | m + 1 => by simp [showL, showL_len a m]
/-- What is shown up to the k-th fold. -/
def layK (l : List T3) : Nat → List T3
  | 0 => []
  | k + 1 => (layK l k ++ showL (endV l k) ((Nth l k).1 - endV l k).toNat) ++ [((Nth l k).1, (Nth l k).2.2, (Nth l k).2.1 - (Nth l k).1)]
def layV (rows : Int) (l : List T3) : List T3 := layK l l.length ++ showL (endV l l.length) (rows - endV l l.length).toNat
theorem layK_len {rows : Int} {l : List T3} (h : rightB rows 0 l = true) : ∀ k, k ≤ l.length → ((layK l k).length : Int) = cntV rows (l.take k) - (rows - endV l k)
  | 0, _ => by simp [layK, endV, cntV]
  | k + 1, hk => by
    have h1 := right_at h k (by omega)
    have h2 := layK_len h k (by omega)
    rw [take_snocT l k (by omega), cnt_snoc]
    have e : endV l (k + 1) = (Nth l k).2.1 := rfl
    rw [e, layK, List.length_append, List.length_append, showL_len]
    simp only [List.length_cons, List.length_nil]
    omega
theorem layV_len {rows : Int} {l : List T3} (h : rightB rows 0 l = true) (h0 : 0 ≤ rows) : ((layV rows l).length : Int) = cntV rows l := by
  have h1 := layK_len h l.length (Nat.le_refl _)
  have h2 := cnt_in h h0 l.length (Nat.le_refl _)
  rw [List.take_length] at h1 h2
  unfold layV
  rw [List.length_append, showL_len]
  omega
set_option maxRecDepth 100000 in
set_option maxHeartbeats 4000000 in
theorem show_any (B : Nat) (w0 w : World) (A : Option Addr) (L : List T3) (n c : Nat) (ho : w.ownsRow B 40 3 (.slice A n c) n (rowsV encI L)) (hb : Below B w0 w) (hB : B ≤ w.heap.size) (hl : n ≤ 1000000) (fr to : Int) (h0 : 0 ≤ fr) (hto : to ≤ 200000) (m : Nat) (hm : m = (to - fr).toNat) (hml : m ≤ 200000) :
    Calls Try.prog 20 #[.slice A n c, .int .i64 fr, .int .i64 to] w fun e w' => ∃ A' c', e = .returned (.slice A' (n + m) c') ∧ w'.ownsRow B 40 3 (.slice A' (n + m) c') (n + m) (rowsV encI (L ++ showL fr m)) ∧ Below B w0 w' ∧ w.heap.size ≤ w'.heap.size ∧ (∀ k, k < w.heap.size → (Value.slice A n c).ownBlock ≠ some k → w'.heap[k]? = w.heap[k]?) ∧ ∀ k, (Value.slice A' (n + m) c').ownBlock = some k → (Value.slice A n c).ownBlock = some k ∨ w.heap.size ≤ k := by
  obtain ⟨i0, hi0, hz0, hz1, hz2⟩ := info_parts infoItem
  have HO := Lib.hid ho
  have HB := Lib.hid hb
  obtain ⟨ob, hob⟩ : ∃ ob, ob = (Value.slice A n c).ownBlock := ⟨_, rfl⟩
  rw [← hob]
  have HOB := Lib.hid hob
  clear hob
  clear ho hb
  go_enter Try.func20, Try.ntmps20
  go_wp2
  go_loopg [0, 7] m (fun gh s0 s7 wx => ∃ (j : Nat) (A1 : Option Addr) (c1 : Nat), j + gh = m ∧ s7 = .int .i64 (fr + j) ∧ s0 = .slice A1 (n + j) c1 ∧ B ≤ wx.heap.size ∧ w.heap.size ≤ wx.heap.size ∧ Hid (∀ k, k < w.heap.size → ob ≠ some k → wx.heap[k]? = w.heap[k]?) ∧ Hid (∀ k, (Value.slice A1 (n + j) c1).ownBlock = some k → ob = some k ∨ w.heap.size ≤ k) ∧ Hid (wx.ownsRow B 40 3 (.slice A1 (n + j) c1) (n + j) (rowsV encI (L ++ showL fr j))) ∧ Hid (Below B w0 wx))
  case atStart => exact ⟨0, A, c, by omega, by simp, rfl, hB, Nat.le_refl _, Lib.hid fun _ _ _ => rfl, Lib.hid fun k hk => .inl (HOB.out.trans hk), Lib.hid (by simpa [showL] using HO.out), HB⟩
  case round =>
    obtain ⟨j, A1, c1, hj, rfl, rfl, hs, hs2, HF, HW, HOJ, HBJ⟩ := hrel
    cases gk with
    | zero =>
      obtain rfl : m = j := by omega
      have hz : ¬ (fr + (m : Int)) < to := by omega
      have HP := Lib.hid hm
      clear hm
      generalize fr + (m : Int) = z at *
      go_wp2
      go_ret
      exact ⟨A1, c1, rfl, HOJ.out, HBJ.out, hs2, HF.out, HW.out⟩
    | succ gh =>
      have hz : fr + (j : Int) < to := by omega
      have hw1 : IntKind.i64.wrap (fr + (j : Int) + 1) = fr + ((j + 1 : Nat) : Int) := by rw [IntWalk.i64_in _ (by omega)]; omega
      obtain ⟨k, hk⟩ : ∃ k, k = n + j := ⟨_, rfl⟩
      have HK := Lib.hid hk
      rw [← hk] at HOJ HW ⊢
      have hk1 : k ≤ 2000000 := by omega
      have HE : Hid (rowsV encI (L ++ showL fr j) ++ encI (fr + j, 0, 0) = rowsV encI (L ++ showL fr (j + 1))) := Lib.hid (by
        rw [showL, ← List.append_assoc, rowsV_app encI (L ++ showL fr j)]
        simp [rowsV])
      have HN3 : Hid (∀ t, ∀ (i : Nat) (u : Value), (encI (fr + j, 0, 0))[i]? = some u → (wr.alloc (.cells #[.int .i64 (fr + j), .int .u64 0, .int .i64 0] t)).cell? ((⟨wr.heap.size, 0, none⟩ : Addr).add i) = some u) := Lib.hid fun t => news3 wr _ _ rfl t
      have HONE := Lib.hid (encI_one (fr + j, 0, 0))
      have HFN : Hid (∀ (w5 : World) (v5 : Value), (wr.alloc (.cells #[.int .i64 (fr + j), .int .u64 0, .int .i64 0] 40)).grownBy w5 (Value.slice A1 k c1).ownBlock → (v5.ownBlock = (Value.slice A1 k c1).ownBlock ∨ v5.ownBlock = some (wr.alloc (.cells #[.int .i64 (fr + j), .int .u64 0, .int .i64 0] 40)).heap.size) → (w.heap.size ≤ w5.heap.size) ∧ (∀ k, k < w.heap.size → ob ≠ some k → w5.heap[k]? = w.heap[k]?) ∧ (∀ k, v5.ownBlock = some k → ob = some k ∨ w.heap.size ≤ k)) := Lib.hid fun w5 v5 hg hv => by
        have hgs := hg.size
        simp only [World.size_alloc] at hgs hv
        refine ⟨by omega, fun q hq hne => ?_, fun q hq => ?_⟩
        · refine ((hg.block q (by simp; omega) fun e => ?_).trans ((belA (Below.refl wr.heap.size wr) _).block q (by omega))).trans (HF.out q hq hne)
          rcases HW.out q e.symm with h | h
          · exact hne h
          · omega
        · rcases hv with e | e
          · exact HW.out q (e.symm.trans hq)
          · rw [e] at hq
            injection hq with hq
            exact .inr (by omega)
      have HL := Lib.hid (encI_len (fr + j, 0, 0))
      have HM := Lib.hid hm
      clear hk hm
      generalize encI (fr + j, 0, 0) = nw at *
      generalize hz1 : fr + ((j + 1 : Nat) : Int) = z1 at *
      generalize fr + (j : Int) = z at *
      obtain ⟨os, hos⟩ : ∃ os, os = rowsV encI (L ++ showL fr j) := ⟨_, rfl⟩
      rw [← hos] at HOJ HE
      have HZ1 := Lib.hid hz1
      clear hos hz1
      go_wp2_with (at_builtin; go_must (refine wpList_append_own_at _ rfl (.tmp 14) (.tmp 17) 26 rfl B 40 i0 _ 3 24 Try.underlying26 hi0 hz0 hz1 hz2 rfl (by decide) (.slice A1 k c1) k os rfl (HOJ.out.alloc _) ⟨wr.heap.size, 0, none⟩ 1 1 nw rfl HL.out (HN3.out _) HONE.out (by unfold maxLen; omega) (by omega) (by first | (simp; done) | (simp; omega)) ?_; intro v5 w5 hown5 hgrow5 _ hv5; obtain ⟨A5, c5, rfl, _⟩ := own_formK hown5; have HF5 := Lib.hid (HFN.out w5 _ hgrow5 hv5); have HO5 := Lib.hid hown5; have HB5 := Lib.hid (own_below (HOJ.out.alloc (.cells #[.int .i64 z, .int .u64 0, .int .i64 0] 40)) (HBJ.out.alloc hs _) (by first | (simp; done) | (simp; omega)) hgrow5); have hs5 : B ≤ w5.heap.size := (by have := hgrow5.size; simp at this; omega); clear hown5 hgrow5))
      go_roundg gh
      case measure => omega
      case rel =>
        have ho5 := HO5.out
        rw [HE.out] at ho5
        have hk5 : k + 1 = n + (j + 1) := by rw [HK.out]; omega
        have hf5 := HF5.out
        rw [hk5] at ho5 hf5 ⊢
        exact ⟨j + 1, A5, c5, by omega, by rw [HZ1.out], rfl, hs5, hf5.1, Lib.hid hf5.2.1, Lib.hid hf5.2.2, Lib.hid ho5, HB5⟩

theorem mk_items (m : Nat) (hm : m ≤ 1000000) (W : World) : (Instr.makeSlice 26 (.int .i64 0) (.int .i64 m)).run Try.prog W = .ok (.slice (some ⟨W.heap.size, 0, none⟩) 0 m) (W.alloc (.cells (madeCells #[.int .i64 0, .int .u64 0, .int .i64 0] (m * 3)) 40)) := by
  obtain ⟨i0, hi, hz0, hz1, hz2⟩ := info_parts infoItem
  have h := run_make (P := Try.prog) W 26 40 i0 _ Try.underlying26 hi hz0 .i64 .i64 0 m (by omega) (by omega) (by rw [hz2]; omega) (by omega)
  rw [Int.toNat_natCast, hz1] at h
  exact h
set_option maxRecDepth 100000 in
set_option maxHeartbeats 8000000 in
theorem lay_any (A : Option Addr) (l : List T3) (n c : Nat) (hn : n = l.length) (hl : n ≤ 1000000) (rows : Int) (h0 : 0 ≤ rows) (hM : rows ≤ 200000) (hr : rightB rows 0 l = true) (w : World) (h : RK encF 3 w A l) :
    Calls Try.prog 10 #[.int .i64 rows, .slice A n c] w fun e w' => ∃ A' c', e = .returned (.tuple #[.slice A' (layV rows l).length c', .int .i64 0]) ∧ RK encI 3 w' A' (layV rows l) ∧ Below w.heap.size w w' := by
  obtain ⟨i0, hi0, hz0, hz1, hz2⟩ := info_parts infoItem
  have HR := Lib.hid h
  have HN := Lib.hid hn
  have hCI := cnt_in hr h0 l.length (Nat.le_refl _)
  rw [List.take_length] at hCI
  have HC := Lib.hid (count_any A l n c hn hl rows h0 hM hr w h)
  have HA := Lib.hid (right_at hr)
  have HKL := Lib.hid (layK_len hr)
  have HCN := Lib.hid (cnt_in hr h0)
  obtain ⟨cn, hcn⟩ : ∃ cn : Nat, cntV rows l = cn := ⟨(cntV rows l).toNat, by omega⟩
  have hcn2 : cn ≤ 200000 := by omega
  rw [hcn] at HC
  have hmk := fun W => mk_items cn (by omega) W
  have hms : (madeCells #[.int .i64 0, .int .u64 0, .int .i64 0] (cn * 3)).size = cn * 3 := by simp [madeCells]
  have HMS := Lib.hid hms
  clear h hn hr hCI hcn hms
  generalize madeCells #[.int .i64 0, .int .u64 0, .int .i64 0] (cn * 3) = mc at *
  go_enter Try.func10, Try.ntmps10
  go_wp2_with (go_at_call 11; (with_reducible refine HC.out.mono ?_); rintro e w1 ⟨rfl, hb⟩; have HB1 := Lib.hid hb; have hs1 := hb.size; clear hb HC)
  go_loopg [8, 9, 11, 25] n (fun gh s8 s9 s11 s25 wx => ∃ (k : Nat) (A1 : Option Addr) (c1 : Nat), k + gh = n ∧ s25 = .int .i64 k ∧ s9 = .int .i64 (endV l k) ∧ s8 = .slice A1 (layK l k).length c1 ∧ w.heap.size ≤ wx.heap.size ∧ Hid (wx.ownsRow w.heap.size 40 3 (.slice A1 (layK l k).length c1) (layK l k).length (rowsV encI (layK l k))) ∧ Hid (Below w.heap.size w wx))
  case atStart => exact ⟨0, _, cn, by omega, rfl, rfl, rfl, by simp; omega, Lib.hid (World.ownsRow_made w1 mc cn hs1 (by unfold maxLen; omega) HMS.out), Lib.hid (HB1.out.alloc hs1 _)⟩
  case round =>
    obtain ⟨k, A1, c1, hk, rfl, rfl, rfl, hs, HO, HB⟩ := hrel
    have hkl := HKL.out k (by rw [← HN.out]; omega)
    have hcl := HCN.out k (by rw [← HN.out]; omega)
    cases gk with
    | zero =>
      obtain rfl : n = k := by omega
      have hnl := HN.out
      obtain ⟨m, hm⟩ : ∃ m, m = (rows - endV l n).toNat := ⟨_, rfl⟩
      have HS := Lib.hid (show_any w.heap.size w wr A1 (layK l n) _ c1 HO.out HB.out hs (by omega) (endV l n) rows hcl.1 hM m hm (by omega))
      have HV : Hid (layV rows l = layK l n ++ showL (endV l n) m) := Lib.hid (by unfold layV; rw [hm, ← hnl])
      have HVL : Hid ((layV rows l).length = (layK l n).length + m) := Lib.hid (by rw [HV.out, List.length_append, showL_len])
      clear hkl hcl hnl hm
      rw [← HV.out] at HS
      generalize (layK l n).length = q at *
      generalize endV l n = en at *
      go_wp2_with (go_at_call 20; (with_reducible refine HS.out.mono ?_); rintro e w3 ⟨A3, c3, rfl, ho, hb, _, _, _⟩; have HO3 := Lib.hid ho; have HB3 := Lib.hid hb; clear ho hb HS)
      go_ret2
      refine ⟨A3, c3, by rw [HVL.out]; rfl, RK.of_own encI_len HO3.out HVL.out.symm, HB3.out⟩
    | succ gh =>
      have hlt : k < n := by omega
      have hki : (k : Int) < n := by omega
      obtain ⟨bb, off, rfl, hG⟩ := HR.out.fd (fun e => by have := HN.out; rw [e] at this; simp at this; omega)
      obtain ⟨g0, gA⟩ := hG _ HB.out
      obtain ⟨x0, x1, x2⟩ := gA k (HN.out ▸ hlt)
      have hA := HA.out k (by rw [← HN.out]; omega)
      have HNX : Hid (layK l (k + 1) = (layK l k ++ showL (endV l k) ((Nth l k).1 - endV l k).toNat) ++ [((Nth l k).1, (Nth l k).2.2, (Nth l k).2.1 - (Nth l k).1)]) := Lib.hid rfl
      have HEN : Hid (endV l (k + 1) = (Nth l k).2.1) := Lib.hid rfl
      have HBN := Lib.hid (HB.out.alloc hs (.cells #[.int .i64 (Nth l k).1, .int .i64 (Nth l k).2.1, .int .u64 (Nth l k).2.2] 48))
      have HON := Lib.hid (HO.out.alloc (.cells #[.int .i64 (Nth l k).1, .int .i64 (Nth l k).2.1, .int .u64 (Nth l k).2.2] 48))
      clear hG gA
      generalize endV l k = en at *
      generalize Nth l k = x at *
      obtain ⟨xf, xt, xi⟩ := x
      simp only at x0 x1 x2 hA HNX HEN HBN HON
      obtain ⟨m, hm⟩ : ∃ m, m = (xf - en).toNat := ⟨_, rfl⟩
      have HS := Lib.hid (show_any w.heap.size w _ A1 (layK l k) _ c1 HON.out HBN.out (by simp; omega) (by omega) en xf (by omega) (by omega) m hm (by omega))
      rw [← hm] at HNX
      have hw1 : IntKind.i64.wrap (xt - xf) = xt - xf := IntWalk.i64_in _ (by omega)
      obtain ⟨L1, hL1⟩ : ∃ L1, L1 = layK l k ++ showL en m := ⟨_, rfl⟩
      have HL1 : Hid (L1.length = (layK l k).length + m) := Lib.hid (by rw [hL1, List.length_append, showL_len])
      rw [← hL1] at HS HNX
      have hq2 : (layK l k).length + m ≤ 400000 := by omega
      have HNE : Hid ((Value.slice A1 (layK l k).length c1).ownBlock ≠ some wr.heap.size) := Lib.hid fun e => by have := (HO.out.lt _ e).2; omega
      generalize hqq : (layK l k).length = q at *
      obtain ⟨q2, hq3⟩ : ∃ q2, q2 = q + m := ⟨_, rfl⟩
      rw [← hq3] at HS HL1 hq2
      have HE : Hid (rowsV encI L1 ++ encI (xf, xi, xt - xf) = rowsV encI (layK l (k + 1))) := Lib.hid (by rw [HNX.out, rowsV_app]; simp [rowsV])
      have HEL : Hid ((layK l (k + 1)).length = q2 + 1) := Lib.hid (by rw [HNX.out, List.length_append, HL1.out]; rfl)
      have HONE := Lib.hid (encI_one (xf, xi, xt - xf))
      have HL := Lib.hid (encI_len (xf, xi, xt - xf))
      have HN3 : Hid (∀ (W : World) t, ∀ (i : Nat) (u : Value), (encI (xf, xi, xt - xf))[i]? = some u → (W.alloc (.cells #[.int .i64 xf, .int .u64 xi, .int .i64 (xt - xf)] t)).cell? ((⟨W.heap.size, 0, none⟩ : Addr).add i) = some u) := Lib.hid fun W t => news3 W _ _ rfl t
      clear hm hA hkl hcl hL1 hq3 HO HON HBN hqq
      generalize encI (xf, xi, xt - xf) = nw at *
      generalize rowsV encI L1 = os at *
      go_wp2_with (first
        | (go_at_call 20; (with_reducible refine HS.out.mono ?_); rintro e w3 ⟨A3, c3, rfl, ho, hb, hsz3, hfr, how⟩; have y3 := (hfr wr.heap.size (by simp) HNE.out).trans (heap_alloc_new wr _); have z0 := cell_of_row _ _ 0 _ _ _ y3; have z1 := cell_of_row _ _ 1 _ _ _ y3; have z2 := cell_of_row _ _ 2 _ _ _ y3; have HY3 := Lib.hid y3; have HW3 := Lib.hid (fun e => (how wr.heap.size e).elim HNE.out (fun h => by rw [World.size_alloc] at h; omega)); have hs3 : w.heap.size ≤ w3.heap.size := (by simp at hsz3; omega); have hg3 : wr.heap.size < w3.heap.size := (by simp at hsz3; omega); have HO3 := Lib.hid ho; have HB3 := Lib.hid hb; clear ho hb hfr how hsz3 y3 HS)
        | (at_builtin; go_must (refine wpList_append_own _ rfl _ _ 26 rfl w.heap.size 40 i0 _ 3 24 Try.underlying26 hi0 hz0 hz1 hz2 rfl (by decide) (.slice A3 q2 c3) q2 os rfl (HO3.out.alloc _) ⟨w3.heap.size, 0, none⟩ 1 1 nw rfl HL.out (HN3.out _ _) HONE.out (by unfold maxLen; omega) (by omega) (by first | (simp; done) | (simp; omega)) ?_; intro v5 w5 hown5 hgrow5 _; obtain ⟨A5, c5, rfl, _⟩ := own_formK hown5; have hgs5 := hgrow5.size; have y5 := ((hgrow5.block wr.heap.size (by simp; omega) (fun e => HW3.out e.symm)).trans ((belA (Below.refl w3.heap.size w3) _).block _ hg3)).trans HY3.out; have t1 := cell_of_row _ _ 1 _ _ _ y5; have hs5 : w.heap.size ≤ w5.heap.size := (by simp at hgs5; omega); have HO5 := Lib.hid hown5; have HB5 := Lib.hid (own_below (HO3.out.alloc _) (HB3.out.alloc hs3 _) (by first | (simp; done) | (simp; omega)) hgrow5); clear hown5 hgrow5 hgs5 y5)))
      go_roundg gh
      case measure => omega
      case rel =>
        have ho5 := HO5.out
        rw [HE.out] at ho5
        rw [← HEL.out] at ho5 ⊢
        exact ⟨k + 1, A5, c5, by omega, by go_num, by rw [HEN.out], rfl, hs5, Lib.hid ho5, HB5⟩

end Go.Proofs.Ytnnmliblnmijdaa
