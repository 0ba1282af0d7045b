/- The walk of Fill. -/
import Derived.Test.YtehfejgalemhaaaNv
namespace Go.Proofs.Ytehfejgalemhaaa
open Go.RowKit

theorem OR.dropn {w : World} {n g off c k : Nat} {xs : List Value} (h : OR w (.slice (some ⟨g, off, none⟩) n c) n xs) (hk : k ≤ n) : OR w (.slice (some ⟨g, off + k * 2, none⟩) (n - k) (c - k)) (n - k) (xs.drop (k * 2)) ∧ n ≤ c ∧ (c = k → OR w (.slice (some ⟨g, off, none⟩) 0 0) 0 []) := by
  rcases h.2 with ⟨h0, _⟩ | ⟨g', off', cap, cur, e, hh, h1, h2, h3, hr⟩
  · simp at h0
  · simp only [Value.slice.injEq, Option.some.injEq, Addr.mk.injEq, and_true, true_and] at e
    obtain ⟨⟨rfl, rfl⟩, rfl⟩ := e
    refine ⟨⟨by have := h.1; simp; omega, .inr ⟨g, off + k * 2, c - k, cur, rfl, hh, by omega, by omega, by omega, fun j u hu => ?_⟩⟩, h1, fun _ => ⟨rfl, .inr ⟨g, off, 0, cur, rfl, hh, Nat.le_refl _, by unfold maxLen; omega, by omega, fun j u hu => by simp at hu⟩⟩⟩
    have := hr (k * 2 + j) u (by rw [List.getElem?_drop] at hu; exact hu)
    rwa [← Nat.add_assoc] at this
/-- Behind Fill. -/
def FillPost (P : Nat → Prop) (w : World) (D room : Nat) (gone : Int) (L : List (Int × Bool)) (k : Nat) (e : Ending) (w' : World) : Prop :=
  e = .returned (.int .i64 k) ∧ ∃ A c xs', RM P w' D (.slice A L.length c) room (IntKind.u64.wrap (gone + k)) L xs' ∧ KB (fun i => i = D) w w' ∧ ∃ g, (Value.slice A L.length c).ownBlock = some g ∧ w.heap.size ≤ g
theorem fill_end {P : Nat → Prop} {w w5 : World} {D room : Nat} {gone : Int} {L0 L : List (Int × Bool)} {v : Value} {xs xs' : List Value} (h : RM P w D v room gone L0 xs) (hP : ∀ b, w.heap.size ≤ b → P b) (n : Nat) (hn : n = L.length) (hb : Below w.heap.size w w5) (ho : OR w5 (.slice (some ⟨w.heap.size, 0, none⟩) n n) n xs') (hs : RS (fun b => w.heap.size ≤ b) w5 xs' L) (k : Nat) :
    (w5.cell? ⟨D, 0, none⟩ = some v ∧ w5.cell? ⟨D, 2, none⟩ = some (.int .u64 gone) ∧ ∀ k, w5.frozen? ⟨D, k, none⟩ = false) ∧ FillPost P w D room gone L k (.returned (.int .i64 k)) ((w5.setCell ⟨D, 0, none⟩ (.slice (some ⟨w.heap.size, 0, none⟩) n n)).setCell ⟨D, 2, none⟩ (.int .u64 (IntKind.u64.wrap (gone + k)))) := by
  subst hn
  have h5 := h.past hb
  have kk : KB (fun i => i = D) w5 ((w5.setCell ⟨D, 0, none⟩ (.slice (some ⟨w.heap.size, 0, none⟩) L.length L.length)).setCell ⟨D, 2, none⟩ (.int .u64 (IntKind.u64.wrap (gone + k)))) := (KB.set (S := fun i => i = D) 0 _ rfl).trans (KB.set (S := fun i => i = D) 2 _ rfl) fun _ _ e => e
  have hlt := h.lt
  refine ⟨⟨h5.cells.1.1, h5.cells.1.2.2, h5.cells.2⟩, rfl, _, _, xs', ⟨(heap_set_ring (heap_set_ring h5.d _).1 _).2, ho.kept kk (fun g e e2 => ?_), hs.map fun _ _ _ q => (q.mono fun b _ hb => hP b hb).kept kk fun i cur hi hS hp => h5.nc P i cur hi (.inl hS) hp⟩, (KB.of_below hb).trans kk fun _ _ e => e, w.heap.size, rfl, Nat.le_refl _⟩
  simp [Value.ownBlock] at e
  omega

set_option maxRecDepth 100000 in
set_option maxHeartbeats 4000000 in
theorem fill_any {P P2 : Nat → Prop} (w : World) (D : Nat) (v : Value) (room : Nat) (gone : Int) (L0 : List (Int × Bool)) (xs : List Value) (h : RM P w D v room gone L0 xs) (hP : ∀ b, w.heap.size ≤ b → P b) (hroom : room ≤ 1000000) (A : Option Addr) (n c : Nat) (ys : List Value) (L : List (Int × Bool)) (hn : n = L.length) (hl : n ≤ 1000000) (ho : OR w (.slice A n c) n ys) (hs : RS P2 w ys L) :
    Calls Try.prog 22 #[.pointer (some ⟨D, 0, none⟩), .slice A n c] w fun e w' => FillPost P w D room gone (L.drop (n - room)) (n - room) e w' := by
  have HC : Hid (∀ (A' : Option Addr) (n' c' : Nat) (zs : List Value) (Lz : List (Int × Bool)), n' = Lz.length → n' ≤ 1000000 → OR w (.slice A' n' c') n' zs → RS P2 w zs Lz → ∀ k, Calls Try.prog 29 #[.slice A' n' c'] w fun e w5 => e = .returned (.slice (some ⟨w.heap.size, 0, none⟩) n' n') ∧ (w5.cell? ⟨D, 0, none⟩ = some v ∧ w5.cell? ⟨D, 2, none⟩ = some (.int .u64 gone) ∧ ∀ k, w5.frozen? ⟨D, k, none⟩ = false) ∧ Hid (FillPost P w D room gone Lz k (.returned (.int .i64 k)) ((w5.setCell ⟨D, 0, none⟩ (.slice (some ⟨w.heap.size, 0, none⟩) n' n')).setCell ⟨D, 2, none⟩ (.int .u64 (IntKind.u64.wrap (gone + k)))))) := Lib.hid fun A' n' c' zs Lz hnz hlz hoz hsz k =>
    (cloneAll_any A' n' c' zs Lz hnz hlz w hoz hsz).mono fun e w5 ⟨xs5, h1, h2, h3, h4⟩ => by
      obtain ⟨q1, q2⟩ := fill_end h hP n' hnz h2 h3 h4 k
      exact ⟨h1, q1, Lib.hid q2⟩
  obtain ⟨⟨d0, d1, d2⟩, df⟩ := h.cells
  obtain ⟨A0, c0, rfl⟩ := h.rows.shape
  have hw1 : IntKind.i64.wrap ((n : Int) - room) = (n : Int) - room := IntWalk.i64_in _ (by omega)
  clear h hP
  by_cases hnr : n ≤ room
  · have hk0 : n - room = 0 := by omega
    rw [hk0, List.drop_zero]
    have HCL := Lib.hid (HC.out A n c ys L hn hl ho hs 0)
    clear HC hs hn hk0
    rcases ho.2 with ⟨he, rfl⟩ | ⟨g, off, cap, cur, he, _, hnc, _⟩
    · injection he with h1 h2 h3
      subst h1; subst h3
      clear ho hw1
      by_cases hr0 : room = 0
      · have hw1 : IntKind.i64.wrap (-(room : Int)) = 0 := by subst hr0; rfl
        have hw2 : IntKind.i64.wrap 0 = 0 := rfl
        go_enter Try.func22, Try.ntmps22
        go_wp2_with (go_at_call 29; go_must (with_reducible refine HCL.out.mono ?_; rintro e5 w5 ⟨rfl, ⟨e50, e52, e5f⟩, HF⟩))
        go_ret
        have hf := HF.out
        simp only [Int.natCast_zero, Int.add_zero] at hf
        exact hf
      · obtain ⟨d, hd, hd0⟩ : ∃ d : Int, -(room : Int) = d ∧ d < 0 := ⟨_, rfl, by omega⟩
        have hw1 : IntKind.i64.wrap (-(room : Int)) = d := by rw [hd]; exact IntWalk.i64_in _ (by omega)
        clear hd
        go_enter Try.func22, Try.ntmps22
        go_wp2_with (go_at_call 29; go_must (with_reducible refine HCL.out.mono ?_; rintro e5 w5 ⟨rfl, ⟨e50, e52, e5f⟩, HF⟩))
        go_ret
        have hf := HF.out
        simp only [Int.natCast_zero, Int.add_zero] at hf
        exact hf
    · injection he with h1 h2 h3
      subst h1; subst h3
      clear ho
      have hc1 : (0 : Int) ≤ n := by omega
      have hc2 : (n : Int) ≤ c := by omega
      by_cases hr0 : n = room
      · have hw1' : IntKind.i64.wrap ((n : Int) - room) = 0 := by rw [hw1]; omega
        clear hw1 hr0
        go_enter Try.func22, Try.ntmps22
        go_wp2_with (go_at_call 29; go_must (with_reducible refine HCL.out.mono ?_; rintro e5 w5 ⟨rfl, ⟨e50, e52, e5f⟩, HF⟩))
        go_ret
        have hf := HF.out
        simp only [Int.natCast_zero, Int.add_zero] at hf
        exact hf
      · obtain ⟨d, hd, hd0⟩ : ∃ d : Int, (n : Int) - room = d ∧ d < 0 := ⟨_, rfl, by omega⟩
        have hw1' : IntKind.i64.wrap ((n : Int) - room) = d := by rw [hw1, hd]
        clear hd hw1
        go_enter Try.func22, Try.ntmps22
        go_wp2_with (go_at_call 29; go_must (with_reducible refine HCL.out.mono ?_; rintro e5 w5 ⟨rfl, ⟨e50, e52, e5f⟩, HF⟩))
        go_ret
        have hf := HF.out
        simp only [Int.natCast_zero, Int.add_zero] at hf
        exact hf
  · obtain ⟨k, hk, hk1⟩ : ∃ k : Nat, n - room = k ∧ 1 ≤ k := ⟨n - room, rfl, by omega⟩
    have hm1 : (n : Int) - room = k := by omega
    have hm2 : ¬ (n : Int) - room ≤ 0 := by omega
    have hm3 : ¬ (k : Int) ≤ 0 := by omega
    have hm4 : (0 : Int) < k := by omega
    have hkn : k ≤ n := by omega
    have hkn' : (k : Int) ≤ n := by omega
    have hk0 : (0 : Int) ≤ k := by omega
    have hw2 : IntKind.u64.wrap (k : Int) = k := IntWalk.u64_in _ (by omega)
    have hw3 : IntKind.i64.wrap (k : Int) = k := IntWalk.i64_in _ (by omega)
    rw [hk]
    obtain ⟨n', hn'⟩ : ∃ n', n = n' + 1 := ⟨n - 1, by omega⟩
    obtain ⟨g, off, c', he, hc⟩ := OR.form (n := n') (by have := ho; rwa [hn'] at this)
    rw [← hn'] at he
    injection he with h1 _ h3
    subst h1; subst h3
    obtain ⟨q1, q2, q3⟩ := ho.dropn hkn
    have hsd := hs.drop k
    have hld : n - k = (L.drop k).length := by rw [List.length_drop, hn]
    by_cases hck : c = k
    · have hnk : n - k = 0 := by omega
      have hL0 : L.drop k = [] := List.eq_nil_of_length_eq_zero (by omega)
      have HCL := Lib.hid (HC.out (some ⟨g, off, none⟩) 0 0 [] [] rfl (by decide) (q3 hck) trivial k)
      rw [hL0]
      have hck' : ¬ 0 < c - k := by omega
      obtain rfl : c = k := hck
      obtain rfl : n = c := by omega
      clear HC ho hs hsd hld q1 q3 hn hL0 hc hn' hnk
      go_enter Try.func22, Try.ntmps22
      go_wp2_with (go_at_call 29; go_must (with_reducible refine HCL.out.mono ?_; rintro e5 w5 ⟨rfl, ⟨e50, e52, e5f⟩, HF⟩))
      go_ret
      exact HF.out
    · have HCL := Lib.hid (HC.out (some ⟨g, off + k * 2, none⟩) (n - k) (c - k) _ _ hld (by omega) q1 hsd k)
      have hck1 : ¬ c - k = 0 := by omega
      have hck2 : ¬ c ≤ k := by omega
      have hck3 : k < c := by omega
      have hnc' : (n : Int) ≤ c := by omega
      generalize L.drop k = Ld at *
      clear HC ho hs hsd hld q1 q3 hn hc hn'
      go_enter Try.func22, Try.ntmps22
      go_wp2_with (go_at_call 29; go_must (with_reducible refine HCL.out.mono ?_; rintro e5 w5 ⟨rfl, ⟨e50, e52, e5f⟩, HF⟩))
      go_ret
      exact HF.out
end Go.Proofs.Ytehfejgalemhaaa
