/- The walk of the reference's Fill. -/
import Derived.Test.YtehfejgalemhaaaNw
import Derived.Test.YtehfejgalemhaaaNz
namespace Go.Proofs.Ytehfejgalemhaaa
open Go.RowKit

def RFillPost (P : Nat → Prop) (w : World) (D room : Nat) (gone : Int) (L : List (Int × Bool)) (k : Nat) (e : Ending) (w' : World) : Prop :=
  e = .returned (.int .i64 k) ∧ ∃ A c xs', RF P w' D (.slice A L.length c) room (IntKind.u64.wrap (gone + k)) L xs' ∧ KB (fun i => i = D) w w' ∧ ∀ g, (Value.slice A L.length c).ownBlock = some g → w.heap.size ≤ g
theorem rfill_end {P : Nat → Prop} {w w9 : World} {D room : Nat} {gone : Int} {L0 L : List (Int × Bool)} {v v9 : Value} {xs zs : List Value} (h : RF P w D v room gone L0 xs) (hs : RS P w zs L) (n : Nat) (hn : n = L.length) (hg : (w.alloc (.cells #[] 43)).grownBy w9 (some w.heap.size)) (ho : w9.ownsRow w.heap.size 43 2 v9 (0 + n) ([] ++ zs)) (k : Nat) :
    (w9.cell? ⟨D, 1, none⟩ = some v ∧ w9.cell? ⟨D, 2, none⟩ = some (.int .u64 gone) ∧ ∀ k, w9.frozen? ⟨D, k, none⟩ = false) ∧ ∃ A9 c9, v9 = .slice A9 n c9 ∧ Hid (RFillPost P w D room gone L k (.returned (.int .i64 k)) ((w9.setCell ⟨D, 1, none⟩ (.slice A9 n c9)).setCell ⟨D, 2, none⟩ (.int .u64 (IntKind.u64.wrap (gone + k))))) := by
  subst hn
  simp only [Nat.zero_add, List.nil_append] at ho
  have hb : Below w.heap.size w w9 := (belA (Below.refl w.heap.size w) _).grown hg (by simp) (fun k e => by cases e; exact Nat.le_refl _)
  have h9 := h.past hb
  obtain ⟨A9, c9, rfl⟩ := (OR.of_own ho).shape
  obtain ⟨q1, q2⟩ := h9.relaid (OR.of_own ho) (hs.map fun _ _ _ q => q.past hb)
  obtain ⟨q3, q4⟩ := q1.counted (IntKind.u64.wrap (gone + k))
  exact ⟨⟨h9.cells.1.2.1, h9.cells.1.2.2, h9.cells.2⟩, A9, c9, rfl, Lib.hid ⟨rfl, A9, c9, zs, q3, ((KB.of_below hb).trans q2 fun _ _ e => e).trans q4 fun _ _ e => e, fun g e => (ho.lt g e).1⟩⟩

set_option maxRecDepth 100000 in
set_option maxHeartbeats 4000000 in
theorem rfill_any {P : Nat → Prop} (w : World) (D : Nat) (v : Value) (room : Nat) (gone : Int) (L0 : List (Int × Bool)) (xs : List Value) (h : RF P w D v room gone L0 xs) (hroom : room ≤ 1000000) (A : Option Addr) (n c : Nat) (ys : List Value) (L : List (Int × Bool)) (hn : n = L.length) (hl : n ≤ 1000000) (ho : OR w (.slice A n c) n ys) (hs : RS P w ys L) :
    Calls Try.prog 26 #[.pointer (some ⟨D, 0, none⟩), .slice A n c] w fun e w' => RFillPost P w D room gone (L.drop (n - room)) (n - room) e w' := by
  obtain ⟨⟨d0, d1, d2⟩, df⟩ := h.cells
  have hlt := h.lt
  have hD1 : D < w.heap.size + 1 := by omega
  obtain ⟨i0, hi0, hz0, hz1, hz2⟩ := info_row
  have HOWN : Hid ((w.alloc (.cells #[] 43)).ownsRow w.heap.size 43 2 (.slice (some ⟨w.heap.size, 0, none⟩) 0 0) 0 []) := Lib.hid (World.ownsRow_made w #[] 0 (Nat.le_refl _) (by unfold maxLen; omega) rfl)
  have hbs : w.heap.size ≤ (w.alloc (.cells #[] 43)).heap.size := by simp
  have hw1 : IntKind.i64.wrap ((n : Int) - room) = (n : Int) - room := IntWalk.i64_in _ (by omega)
  by_cases hnr : n ≤ room
  · have hk0 : n - room = 0 := by omega
    have hm1 : ¬ (room : Int) < n := by omega
    rw [hk0, List.drop_zero]
    have HCL := Lib.hid (fun w9 v9 hg ho9 => rfill_end (w9 := w9) (v9 := v9) h hs n hn hg ho9 0)
    have HYL : Hid (ys.length = n * 2) := Lib.hid ho.1
    have HONE := Lib.hid hs.ones
    clear h hs hn hk0 hw1
    rcases ho.2 with ⟨he, rfl⟩ | ⟨g, off, cap, cur, he, hh, hnc, _, _, hr⟩
    · injection he with h1 h2 h3
      subst h1; subst h3
      have hy0 : ys = [] := List.eq_nil_of_length_eq_zero (by have := HYL.out; omega)
      subst hy0
      obtain ⟨⟨x0, x1, xf⟩, A9, c9, hE, HZ⟩ := HCL.out (w.alloc (.cells #[] 43)) (.slice (some ⟨w.heap.size, 0, none⟩) 0 0) ⟨rfl, rfl, rfl, Nat.le_refl _, fun _ _ _ => rfl⟩ HOWN.out
      injection hE with hE1 _ hE3
      subst hE1; subst hE3
      clear ho HYL HONE HCL
      go_enter Try.func26, Try.ntmps26
      go_wp2_with (at_builtin; go_must (refine wpList_append_own_none rfl _ _ 29 rfl w.heap.size 43 i0 2 Try.underlying29 hi0 (.slice (some ⟨w.heap.size, 0, none⟩) 0 0) 0 [] rfl HOWN.out rfl ?_))
      go_ret
      have hf := HZ.out
      rw [World.setCell_alloc_past _ D 1 _ hlt, World.setCell_alloc_past _ D 2 _ (by rw [World.size_setCell]; exact hlt)] at hf
      simp only [Int.natCast_zero, Int.add_zero] at hf
      exact hf
    · injection he with h1 h2 h3
      subst h1; subst h3
      have hlg : g < w.heap.size := (ho.lt g rfl).1
      have HNY : Hid (∀ W, Below w.heap.size w W → ∀ j u, ys[j]? = some u → W.cell? ((⟨g, off, none⟩ : Addr).add j) = some u) := Lib.hid fun W hW j u hu => by
        rw [Addr.add_mid]
        exact (hW.cell (p := ⟨g, off + j, none⟩) hlg).trans (hr j u hu)
      clear ho hr hh
      have hc1 : (0 : Int) ≤ n := by omega
      have hc2 : (n : Int) ≤ c := by omega
      have hb1 : 0 + n ≤ maxLen := by unfold maxLen; omega
      have hb2 : (0 + n) * 32 ≤ 140737488355328 := by omega
      go_enter Try.func26, Try.ntmps26
      go_wp2_with (at_builtin; go_must (refine wpList_append_own _ rfl _ _ 29 rfl w.heap.size 43 i0 _ 2 32 Try.underlying29 hi0 hz0 hz1 hz2 rfl (by decide) (.slice (some ⟨w.heap.size, 0, none⟩) 0 0) 0 [] rfl HOWN.out ⟨g, off, none⟩ n c ys rfl HYL.out (HNY.out _ (belA (Below.refl _ _) _)) HONE.out hb1 hb2 hbs ?_; intro v9 w9 hown9 hgrow9 _; obtain ⟨⟨x0, x1, xf⟩, A9, c9, rfl, HZ⟩ := HCL.out _ _ hgrow9 hown9; clear hown9 hgrow9))
      go_ret
      have hf := HZ.out
      simp only [Int.natCast_zero, Int.add_zero] at hf
      exact hf
  · obtain ⟨k, hk, hk1⟩ : ∃ k : Nat, n - room = k ∧ 1 ≤ k := ⟨n - room, rfl, by omega⟩
    have hm0 : (room : Int) < n := by omega
    have hm1 : (n : Int) - room = k := by omega
    have hkn : k ≤ n := by omega
    have hkn' : (k : Int) ≤ n := by omega
    have hk0 : (0 : Int) ≤ k := by omega
    have hw2 : IntKind.u64.wrap (k : Int) = k := IntWalk.u64_in _ (by omega)
    have hw3 : IntKind.i64.wrap (k : Int) = k := IntWalk.i64_in _ (by omega)
    rw [hk]
    obtain ⟨n', hn'⟩ : ∃ n', n = n' + 1 := ⟨n - 1, by omega⟩
    obtain ⟨g, off, c', he, hc⟩ := OR.form (n := n') (by have := ho; rwa [hn'] at this)
    rw [← hn'] at he
    injection he with h1 _ h3
    subst h1; subst h3
    obtain ⟨q1, q2, q3⟩ := ho.dropn hkn
    have hsd := hs.drop k
    have hld : n - k = (L.drop k).length := by rw [List.length_drop, hn]
    have hlg : g < w.heap.size := (ho.lt g rfl).1
    have HCL := Lib.hid (fun w9 v9 hg ho9 => rfill_end (w9 := w9) (v9 := v9) h hsd (n - k) hld hg ho9 k)
    have HYL : Hid ((ys.drop (k * 2)).length = (n - k) * 2) := Lib.hid q1.1
    have HONE := Lib.hid hsd.ones
    have HNY : Hid (∀ W, Below w.heap.size w W → ∀ j u, (ys.drop (k * 2))[j]? = some u → W.cell? ((⟨g, off + k * 2, none⟩ : Addr).add j) = some u) := Lib.hid fun W hW j u hu => by
      rw [Addr.add_mid]
      exact (hW.cell (p := ⟨g, off + k * 2 + j, none⟩) hlg).trans (q1.cell hu).1
    have hb1 : 0 + (n - k) ≤ maxLen := by unfold maxLen; omega
    have hb2 : (0 + (n - k)) * 32 ≤ 140737488355328 := by omega
    generalize L.drop k = Ld at *
    by_cases hck : c = k
    · have hnk : n - k = 0 := by omega
      have hy0 : ys.drop (k * 2) = [] := List.eq_nil_of_length_eq_zero (by have := HYL.out; omega)
      rw [hy0, hnk] at HCL
      have hck' : ¬ 0 < c - k := by omega
      obtain rfl : c = k := hck
      obtain rfl : n = c := by omega
      clear h ho hs hsd hld q1 q3 hn hc hn' hnk HYL HONE HNY hy0
      go_enter Try.func26, Try.ntmps26
      go_wp2_with (at_builtin; go_must (refine wpList_append_own _ rfl _ _ 29 rfl w.heap.size 43 i0 _ 2 32 Try.underlying29 hi0 hz0 hz1 hz2 rfl (by decide) (.slice (some ⟨w.heap.size, 0, none⟩) 0 0) 0 [] rfl HOWN.out ⟨g, off, none⟩ 0 0 [] rfl rfl (fun j u hu => by simp at hu) (fun u hu => by simp at hu) (by decide) (by decide) hbs ?_; intro v9 w9 hown9 hgrow9 _; obtain ⟨⟨x0, x1, xf⟩, A9, c9, rfl, HZ⟩ := HCL.out _ _ hgrow9 hown9; clear hown9 hgrow9))
      go_ret
      exact HZ.out
    · have hck1 : ¬ c - k = 0 := by omega
      have hck2 : ¬ c ≤ k := by omega
      have hck3 : k < c := by omega
      have hnc' : (n : Int) ≤ c := by omega
      generalize ys.drop (k * 2) = zs at *
      clear h ho hs hsd hld q1 q3 hn hc hn'
      go_enter Try.func26, Try.ntmps26
      go_wp2_with (at_builtin; go_must (refine wpList_append_own _ rfl _ _ 29 rfl w.heap.size 43 i0 _ 2 32 Try.underlying29 hi0 hz0 hz1 hz2 rfl (by decide) (.slice (some ⟨w.heap.size, 0, none⟩) 0 0) 0 [] rfl HOWN.out ⟨g, off + k * 2, none⟩ (n - k) (c - k) zs rfl HYL.out (HNY.out _ (belA (Below.refl _ _) _)) HONE.out hb1 hb2 hbs ?_; intro v9 w9 hown9 hgrow9 _; obtain ⟨⟨x0, x1, xf⟩, A9, c9, rfl, HZ⟩ := HCL.out _ _ hgrow9 hown9; clear hown9 hgrow9))
      go_ret
      exact HZ.out
end Go.Proofs.Ytehfejgalemhaaa
