/- The walk of flow.cut. -/
import Derived.Test.YtfjgfmeanehpmaaHf
import Derived.StillTailTactics
import Derived.Deep.QuietTactic
namespace Go.Proofs.Ytfjgfmeanehpmaa
open Go.RowKit

set_option maxRecDepth 100000 in
set_option maxHeartbeats 8000000 in
theorem cut_one (A A' : Option Addr) (f : List CC) (n c m : Nat) (hn : n = f.length) (hnc : n ≤ c) (h2 : 2 ≤ m) (hm : m ≤ 1000) (w : World) (h : RC w w.heap.size A f)
    (hno : ¬ (m ≤ f.length ∧ (Ac f (m - 1)).h = 1)) (hA : (A = none ∧ A' = none) ∨ (∃ b off, A = some ⟨b, off, none⟩ ∧ (c = Nat.min n m ∧ A' = A ∨ c ≠ Nat.min n m ∧ A' = some ⟨b, off + Nat.min n m * 8, none⟩)) ∨ ∃ ad, A = some ad ∧ A' = A ∧ n = 0) :
    Calls Try.prog 35 #[.slice A n c, .int .i64 m] w fun e w' => ∃ g, e = .returned (.tuple #[.slice (some ⟨g, 0, none⟩) m m, .slice A' (n - Nat.min n m) (c - Nat.min n m)]) ∧ w.heap.size ≤ g ∧ MC w' g (cutR1 m f) ∧ (∀ W, RC W W.heap.size A f → RC W W.heap.size A' (cutR2 m f)) ∧ Below w.heap.size w w' := by
  obtain ⟨e1, e2, e3⟩ := cut_plain m f h2 hno
  have hmk := mk_cells m hm w
  have HM0 := Lib.hid (MC.made w m)
  have HC1 := Lib.hid e1
  have HB0 := Lib.hid (belA (Below.refl w.heap.size w) (.cells (madeCells zC (m * 8)) 54))
  have hg := heap_alloc_new w (.cells (madeCells zC (m * 8)) 54)
  have hk1 : Nat.min n m ≤ n := Nat.min_le_left _ _
  have hk2 : Nat.min n m ≤ m := Nat.min_le_right _ _
  have HH : Hid (∀ W, MC W w.heap.size (rowF m f) → ∃ z, W.cell? ⟨w.heap.size, (m - 1) * 8 + 2, none⟩ = some (.int .i64 z) ∧ z ≠ 1) := Lib.hid fun W hW => ⟨_, (hW.at' (m - 1) (by rw [rowF_len]; omega)).2.2.1, e3⟩
  have HR2 : Hid (∀ W, RC W W.heap.size A f → RC W W.heap.size A' (cutR2 m f)) := Lib.hid fun W hW => by
    rw [e2, ← hn]
    rcases hA with ⟨rfl, rfl⟩ | ⟨b, off, rfl, ⟨hc, rfl⟩ | ⟨hc, rfl⟩⟩ | ⟨ad, rfl, rfl, hn0⟩
    · have : f = [] := by
        rcases f with _ | ⟨x, f⟩
        · rfl
        · obtain ⟨b, off, e, _⟩ := h (by simp)
          cases e
      rw [this]
      exact fun hne => absurd (by simp) hne
    · rw [List.drop_of_length_le (by omega)]
      exact fun hne => absurd rfl hne
    · exact hW.drop _
    · rw [List.drop_of_length_le (by omega)]
      exact fun hne => absurd rfl hne
  have HF := Lib.hid h
  have HN := Lib.hid hn
  have hme : (m : Int) - 1 = ((m - 1 : Nat) : Int) := by omega
  have hw1 : IntKind.i64.wrap ((m : Int) - 1) = ((m - 1 : Nat) : Int) := by rw [IntKind.wrap_i64]; omega
  have hlt : ((m - 1 : Nat) : Int) < m := by omega
  have HK : Hid (Nat.min n m = Nat.min n m) := Lib.hid rfl
  obtain ⟨k, hk⟩ : ∃ k, Nat.min n m = k := ⟨_, rfl⟩
  have HKE := Lib.hid hk
  rw [hk] at hA hk1 hk2 ⊢
  have hkn : (k : Int) ≤ n := by omega
  have hkc : (k : Int) ≤ c := by omega
  have hkc' : k ≤ c := by omega
  have HMR : Hid (f.take k ++ (List.replicate m CC.zero).drop k = rowF m f) := Lib.hid (by unfold rowF; rw [← hn, hk])
  have HFA : Hid (RC (w.alloc (.cells (madeCells zC (m * 8)) 54)) (w.alloc (.cells (madeCells zC (m * 8)) 54)).heap.size A f) := Lib.hid (h.past (belA (Below.refl _ _) _))
  clear h hn e1 e2 e3 hno hk HK hme
  rcases hA with ⟨rfl, rfl⟩ | ⟨b, off, rfl, ⟨rfl, rfl⟩ | ⟨hc, rfl⟩⟩ | ⟨ad, rfl, rfl, rfl⟩
  case' inr.inr =>
    obtain rfl : k = 0 := by omega
    have hadd : ad.add 0 = ad := by simp [Addr.add]
    have hif : (if c = 0 then some ad else some ad) = some ad := by split <;> rfl
  all_goals
    go_enter Try.func35, Try.ntmps35
    go_wp2_with (with_reducible refine wpList_copy_rc rfl (.tmp 9) (.tmp 10) rfl w.heap.size (List.replicate m CC.zero) HM0.out _ f HFA.out m m _ _ _ rfl rfl (by simp) HN.out HKE.out.symm ?_; intro w1 hm1 hk1; rw [HMR.out] at hm1; obtain ⟨z, hz, hz1⟩ := HH.out _ hm1; have HM1 := Lib.hid hm1; have HK1 := Lib.hid hk1; have hzb : (z == 1) = false := (by simpa using hz1); clear hm1 hk1 hz1)
    have HZ : Hid (∀ W, Below w1.heap.size w1 W → MC W w.heap.size (cutR1 m f) ∧ Below w.heap.size w W) := Lib.hid fun W hW => by
      rw [HC1.out]
      have hb := Below.ofKG HB0.out HK1.out (Nat.le_refl _) (HB0.out).size
      exact ⟨HM1.out.past hW, bel0 hb hW⟩
    clear HFA HM1 HK1 HC1 HMR HKE HN HM0 HB0 HH hg hmk
    go_quiet (fail)
    go_wp2
    go_ret2
    first
      | exact ⟨_, rfl, Nat.le_refl _, (HZ.out _ (belN' _ _)).1, HR2.out, (HZ.out _ (belN' _ _)).2⟩
      | exact ⟨w.heap.size, (by rw [Nat.sub_self, Nat.sub_eq_zero_of_le hnc]; rfl), Nat.le_refl _, (HZ.out _ (belN' _ _)).1, HR2.out, (HZ.out _ (belN' _ _)).2⟩
set_option maxRecDepth 100000 in
set_option maxHeartbeats 8000000 in
theorem cut_two (b off : Nat) (f : List CC) (n c m : Nat) (hn : n = f.length) (hnc : n ≤ c) (h2 : 2 ≤ m) (hm : m ≤ 1000) (w : World) (h : RC w w.heap.size (some ⟨b, off, none⟩) f)
    (hyes : m ≤ f.length ∧ (Ac f (m - 1)).h = 1) :
    Calls Try.prog 35 #[.slice (some ⟨b, off, none⟩) n c, .int .i64 m] w fun e w' => ∃ g, e = .returned (.tuple #[.slice (some ⟨g, 0, none⟩) m m, .slice (some ⟨b, off + (m - 1) * 8, none⟩) (n - (m - 1)) (c - (m - 1))]) ∧ w.heap.size ≤ g ∧ MC w' g (cutR1 m f) ∧ (∀ W, RC W W.heap.size (some ⟨b, off, none⟩) f → RC W W.heap.size (some ⟨b, off + (m - 1) * 8, none⟩) (cutR2 m f)) ∧ Below w.heap.size w w' := by
  obtain ⟨e1, e2, e3⟩ := cut_left m f h2 hyes
  have hmk := mk_cells m hm w
  have HM0 := Lib.hid (MC.made w m)
  have HC1 := Lib.hid e1
  have HB0 := Lib.hid (belA (Below.refl w.heap.size w) (.cells (madeCells zC (m * 8)) 54))
  have hg := heap_alloc_new w (.cells (madeCells zC (m * 8)) 54)
  have hmf : m ≤ n := by rw [hn]; exact hyes.1
  have hk : Nat.min n m = m := Nat.min_eq_right hmf
  have HH : Hid (∀ W, MC W w.heap.size (rowF m f) → C8 W w.heap.size ((m - 1) * 8) (Ac (rowF m f) (m - 1)) ∧ w.heap.size < W.heap.size ∧ (∀ k, W.frozen? ⟨w.heap.size, k, none⟩ = false) ∧ MC (set8 W w.heap.size ((m - 1) * 8) padF) w.heap.size ((rowF m f).set (m - 1) padF)) := Lib.hid fun W hW => ⟨hW.at' (m - 1) (by rw [rowF_len]; omega), hW.lt, hW.free, hW.set (m - 1) (by rw [rowF_len]; omega) padF⟩
  have HR2 : Hid (∀ W, RC W W.heap.size (some ⟨b, off, none⟩) f → RC W W.heap.size (some ⟨b, off + (m - 1) * 8, none⟩) (cutR2 m f)) := Lib.hid fun W hW => by
    rw [e2]
    exact hW.drop _
  have HN := Lib.hid hn
  have HH1 := Lib.hid e3
  have hw1 : IntKind.i64.wrap ((m : Int) - 1) = ((m - 1 : Nat) : Int) := by rw [IntKind.wrap_i64]; omega
  have hlt : ((m - 1 : Nat) : Int) < m := by omega
  have hmc : ((m - 1 : Nat) : Int) ≤ c := by omega
  have hmn : ((m - 1 : Nat) : Int) ≤ n := by omega
  have hne : ¬ (c = m - 1) := by omega
  have HKE := Lib.hid hk
  have HMR : Hid (f.take m ++ (List.replicate m CC.zero).drop m = rowF m f) := Lib.hid (by unfold rowF; rw [← hn, hk])
  have HFA : Hid (RC (w.alloc (.cells (madeCells zC (m * 8)) 54)) (w.alloc (.cells (madeCells zC (m * 8)) 54)).heap.size (some ⟨b, off, none⟩) f) := Lib.hid (h.past (belA (Below.refl _ _) _))
  clear h hn e1 e2 e3 hyes hk
  go_enter Try.func35, Try.ntmps35
  go_wp2_with ((with_reducible refine wpList_copy_rc rfl (.tmp 9) (.tmp 10) rfl w.heap.size (List.replicate m CC.zero) HM0.out _ f HFA.out m m n c m rfl rfl (by simp) HN.out HKE.out.symm ?_); intro w1 hm1 hk1; rw [HMR.out] at hm1; obtain ⟨⟨a0, a1, a2, a3, a4, a5, a6, a7⟩, hlt1, hf1, hm2⟩ := HH.out _ hm1; rw [HH1.out] at a2; have HM2 := Lib.hid hm2; have HK1 := Lib.hid hk1; clear hm1 hk1 hm2)
  have HZ : Hid (∀ W, Below (set8 w1 w.heap.size ((m - 1) * 8) padF).heap.size (set8 w1 w.heap.size ((m - 1) * 8) padF) W → MC W w.heap.size (cutR1 m f) ∧ Below w.heap.size w W) := Lib.hid fun W hW => by
    rw [HC1.out]
    have hb := Below.ofKG HB0.out (HK1.out.set8 ((m - 1) * 8) padF) (Nat.le_refl _) (HB0.out).size
    exact ⟨HM2.out.past hW, bel0 hb hW⟩
  change Code.wp _ _ _ _ (set8 w1 w.heap.size ((m - 1) * 8) padF)
  clear HFA HM2 HK1 HC1 HMR HKE HN HM0 HB0 HH hg hmk a0 a1 a2 a3 a4 a5 a6 a7 hlt1 hf1 HH1
  generalize set8 w1 w.heap.size ((m - 1) * 8) padF = w2 at *
  go_quiet (fail)
  go_wp2
  go_ret2
  exact ⟨_, rfl, Nat.le_refl _, (HZ.out _ (belN' _ _)).1, HR2.out, (HZ.out _ (belN' _ _)).2⟩
/-- A row is cut from the beginning of a flow. -/
theorem cut_any (A : Option Addr) (f : List CC) (n c m : Nat) (hn : n = f.length) (hnc : n ≤ c) (h2 : 2 ≤ m) (hm : m ≤ 1000) (w : World) (h : RC w w.heap.size A f) :
    Calls Try.prog 35 #[.slice A n c, .int .i64 m] w fun e w' => ∃ g A' n' c', e = .returned (.tuple #[.slice (some ⟨g, 0, none⟩) m m, .slice A' n' c']) ∧ w.heap.size ≤ g ∧ MC w' g (cutR1 m f) ∧ n' = (cutR2 m f).length ∧ n' ≤ c' ∧ (∀ W, RC W W.heap.size A f → RC W W.heap.size A' (cutR2 m f)) ∧ Below w.heap.size w w' := by
  by_cases hyes : m ≤ f.length ∧ (Ac f (m - 1)).h = 1
  · obtain ⟨b, off, rfl, _⟩ := h (fun e => by rw [e] at hyes; simp at hyes; omega)
    refine (cut_two b off f n c m hn hnc h2 hm w h hyes).mono fun e w' ⟨g, he, h3, h4, h5, h6⟩ => ⟨g, _, _, _, he, h3, h4, ?_, by omega, h5, h6⟩
    rw [(cut_left m f h2 hyes).2.1, List.length_drop, hn]
  · have hl : n - Nat.min n m = (cutR2 m f).length := by rw [(cut_plain m f h2 hyes).2.1, List.length_drop, hn]
    have hk1 : Nat.min n m ≤ n := Nat.min_le_left _ _
    obtain ⟨A', hA⟩ : ∃ A', (A = none ∧ A' = none) ∨ (∃ b off, A = some ⟨b, off, none⟩ ∧ (c = Nat.min n m ∧ A' = A ∨ c ≠ Nat.min n m ∧ A' = some ⟨b, off + Nat.min n m * 8, none⟩)) ∨ ∃ ad, A = some ad ∧ A' = A ∧ n = 0 := by
      cases A with
      | none => exact ⟨none, .inl ⟨rfl, rfl⟩⟩
      | some ad =>
        rcases Nat.eq_zero_or_pos n with h0 | h0
        · exact ⟨some ad, .inr (.inr ⟨ad, rfl, rfl, h0⟩)⟩
        · obtain ⟨b, off, e, _⟩ := h (fun e => by rw [e] at hn; simp at hn; omega)
          cases e
          by_cases hc : c = Nat.min n m
          · exact ⟨_, .inr (.inl ⟨b, off, rfl, .inl ⟨hc, rfl⟩⟩)⟩
          · exact ⟨_, .inr (.inl ⟨b, off, rfl, .inr ⟨hc, rfl⟩⟩)⟩
    exact (cut_one A A' f n c m hn hnc h2 hm w h hyes hA).mono fun e w' ⟨g, he, h3, h4, h5, h6⟩ => ⟨g, _, _, _, he, h3, h4, hl, by omega, h5, h6⟩
end Go.Proofs.Ytfjgfmeanehpmaa
