/- The law FlowTwice. -/
import Derived.Test.YtfjgfmeanehpmaaLf
import Derived.Test.YtfjgfmeanehpmaaLg
import Derived.Test.YtfjgfmeanehpmaaHm
namespace Go.Proofs.Ytfjgfmeanehpmaa
open Go.RowKit

theorem joinS_cols (m : Nat) (h2 : 2 ≤ m) : ∀ gs : List (List Rw), ∀ r ∈ joinS m gs, r.c.length = m
  | [], r, h => by simp [joinS, joinL] at h
  | g :: gs, r, h => by
    have e : joinS m (g :: gs) = newL m g ++ joinS m gs := rfl
    rw [e, List.mem_append] at h
    rcases h with h | h
    · exact lay_cols m h2 _ false [] (by simp) r h
    · exact joinS_cols m h2 gs r h
theorem sum_cols (m : Nat) : ∀ L : List Rw, (∀ r ∈ L, r.c.length = m) → (L.map fun r => r.c.length).sum = L.length * m
  | [], _ => by simp
  | r :: t, h => by
    have h1 := sum_cols m t fun x hx => h x (List.mem_cons_of_mem _ hx)
    have h3 := h r (List.mem_cons_self ..)
    simp only [List.map_cons, List.sum_cons, h1, h3, List.length_cons, Nat.add_mul]
    omega
theorem grp_len (L : List Rw) : (grp L).length ≤ L.length := by
  have := lineAt_len (L := L) (a := L.length) (ps := offs 0 (grp L)) ⟨grp L, by rw [List.drop_length, grp_nil, List.append_nil], by rw [grp_all], rfl⟩
  rw [offs_len] at this
  omega
theorem reflow_rows (m : Nat) (h2 : 2 ≤ m) (hm : m ≤ 100) (L : List Rw) (k : Nat) (hk : (flat L).length + L.length ≤ k) : (∀ i, i < (reflowL m L).length → (Ar (reflowL m L) i).c.length ≤ 100) ∧ (reflowL m L).length ≤ k ∧ (flat (reflowL m L)).length ≤ k * 100 := by
  have h1 := joinS_cols m h2 (grp L)
  have h3 := joinS_len m h2 (grp L)
  have h4 := grp_len L
  have h5 := flat_len (reflowL m L)
  have h6 := sum_cols m (reflowL m L) h1
  rw [grp_all] at h3
  have h7 : (reflowL m L).length ≤ k := by
    have e : (reflowL m L).length = (joinS m (grp L)).length := rfl
    omega
  refine ⟨fun i hi => ?_, h7, ?_⟩
  · have : (Ar (reflowL m L) i) ∈ reflowL m L := by
      unfold Ar
      rw [List.getElem?_eq_getElem hi]
      exact List.getElem_mem hi
    rw [h1 _ this]
    exact hm
  · rw [h6] at h5
    exact Nat.le_trans h5 (Nat.mul_le_mul h7 hm)
theorem small_sum {L : List Rw} (h : Small L) : (flat L).length + L.length ≤ 600 := by
  unfold Small at h
  have := flat_len L
  omega
/-- Reflowed, with no place asked of. -/
theorem reflow_none (A : Option Addr) (L : List Rw) (n c m : Nat) (hn : n = L.length) (hc : n ≤ c) (h2 : 2 ≤ m) (hm : m ≤ 100) (hr : ∀ i, i < n → (Ar L i).c.length ≤ 1000000) (hf : (flat L).length ≤ 100000) (hl : n ≤ 1000) (w : World) (h : RR w A L) :
    Calls Try.prog 25 #[.slice A n c, .int .i64 m, .slice none 0 0] w fun e w' => ∃ A' c' v, e = .returned (.tuple #[.slice A' (reflowL m L).length c', v]) ∧ (reflowL m L).length ≤ c' ∧ RR w' A' (reflowL m L) ∧ Below w.heap.size w w' := by
  obtain ⟨r1, r2, r3⟩ := reflow_rows m h2 hm L 101000 (by omega)
  refine (reflow_any A L n c m (.slice none 0 0) (fun _ _ => True) hn (by omega) hc h2 (by omega) (fun i hi => by have := hr i hi; omega) hf w h fun W A' c' hW hR hc' => ?_).mono fun e w' ⟨A', c', v, he, h1, h3, _, hb⟩ => ⟨A', c', v, he, h1, h3, hb⟩
  exact (moved_none A A' L (reflowL m L) n c _ c' hn rfl (by omega) (by omega) hc hc' (fun i hi => by have := hr i hi; omega) (fun i hi => by have := r1 i hi; omega) (by omega) (by omega) W (h.past hW) hR).mono fun e w' ⟨v, he, hb⟩ => ⟨v, he, trivial, hb⟩
set_option maxRecDepth 100000 in
set_option maxHeartbeats 8000000 in
theorem flowTwice_law (A : Option Addr) (L : List Rw) (n c a b : Nat) (hn : n = L.length) (hl : n ≤ 140737488355328) (hc : n ≤ c) (hr : ∀ i, i < n → (Ar L i).c.length ≤ 140737488355328) (ha : a < 65536) (hb : b < 65536) (w : World) (h : RR w A L) :
    Calls Try.prog 8 #[.slice A n c, .int .u16 a, .int .u16 b] w fun e w' => e = .returned (.bool true) ∧ Below w.heap.size w w' := by
  have HG := Lib.hid (great_any A L n c hn hl hr w h)
  have HA := fun W => Lib.hid (awake_any W)
  cases hsm : smallB L with
  | false =>
    rw [hsm] at HG
    clear hr h hn hsm
    go_enter Try.func8, Try.ntmps8
    go_wp2_with (first
      | (go_at_call 10; (with_reducible refine (HG.out).mono ?_); rintro e w1 ⟨rfl, hb⟩; have HB1 := Lib.hid hb; clear hb)
      | (go_at_call 11; (with_reducible refine ((HA _).out).mono ?_); rintro e w2 ⟨rfl, hb⟩; have HB2 := Lib.hid (bel0 HB1.out hb); clear hb))
    go_ret
    exact ⟨rfl, HB2.out⟩
  | true =>
    rw [hsm] at HG
    have hs : Small L := of_decide_eq_true hsm
    obtain ⟨s1, s2, s3⟩ := small_rows hs
    have s4 := small_sum hs
    obtain ⟨x, hx⟩ : ∃ x, 2 + a % 99 = x := ⟨_, rfl⟩
    obtain ⟨y, hy⟩ : ∃ y, 2 + b % 99 = y := ⟨_, rfl⟩
    obtain ⟨r1, r2, r3⟩ := reflow_rows x (by omega) (by omega) L 600 s4
    obtain ⟨t1, t2, t3⟩ := reflow_rows y (by omega) (by omega) L 600 s4
    have H1 : Hid (∀ W, Below w.heap.size w W → Calls Try.prog 25 #[.slice A n c, .int .i64 x, .slice none 0 0] W fun e w' => ∃ A' n' c' v, e = .returned (.tuple #[.slice A' n' c', v]) ∧ n' = (reflowL x L).length ∧ n' ≤ c' ∧ RR w' A' (reflowL x L) ∧ Below w.heap.size w w') := Lib.hid fun W hW => (reflow_none A L n c x hn hc (by omega) (by omega) (fun i hi => by have := s2 i (by omega); omega) (by omega) (by omega) W (h.past hW)).mono fun e w' ⟨A', c', v, he, h1, h3, hb⟩ => ⟨A', _, c', v, he, rfl, h1, h3, bel0 hW hb⟩
    have H2 : Hid (∀ W A1 n1 c1, n1 = (reflowL x L).length → n1 ≤ c1 → RR W A1 (reflowL x L) → Calls Try.prog 25 #[.slice A1 n1 c1, .int .i64 y, .slice none 0 0] W fun e w' => ∃ A' c' v, e = .returned (.tuple #[.slice A' (reflowL y L).length c', v]) ∧ RR w' A' (reflowL y L) ∧ Below W.heap.size W w') := Lib.hid fun W A1 n1 c1 hn1 hc1 hR => by
      have h := reflow_none A1 (reflowL x L) n1 c1 y hn1 hc1 (by omega) (by omega) (fun i hi => by have := r1 i (by omega); omega) (by omega) (by omega) W hR
      rw [reflow_twice] at h
      exact h.mono fun e w' ⟨A', c', v, he, _, h3, hb⟩ => ⟨A', c', v, he, h3, hb⟩
    have H3 : Hid (∀ W, Below w.heap.size w W → Calls Try.prog 25 #[.slice A n c, .int .i64 y, .slice none 0 0] W fun e w' => ∃ A' c' v, e = .returned (.tuple #[.slice A' (reflowL y L).length c', v]) ∧ RR w' A' (reflowL y L) ∧ Below W.heap.size W w') := Lib.hid fun W hW => (reflow_none A L n c y hn hc (by omega) (by omega) (fun i hi => by have := s2 i (by omega); omega) (by omega) (by omega) W (h.past hW)).mono fun e w' ⟨A', c', v, he, _, h3, hb⟩ => ⟨A', c', v, he, h3, hb⟩
    have HSM : Hid (∀ W A1 A2 c1 c2, RR W A1 (reflowL y L) → RR W A2 (reflowL y L) → Calls Try.prog 19 #[.slice A1 (reflowL y L).length c1, .slice A2 (reflowL y L).length c2] W fun e w' => e = .returned (.bool true) ∧ Below W.heap.size W w') := Lib.hid fun W A1 A2 c1 c2 h1 h2 => same8_any A1 A2 (reflowL y L) _ c1 c2 rfl (by omega) (fun i hi => by have := t1 i hi; omega) W h1 h2
    clear h hn hr r1 r2 r3 t1 t2 t3 s1 s2 s3 s4 hs hsm
    generalize (reflowL y L).length = ly at *
    have hwx : (2 : Int) + (a : Int) % 99 = x := by omega
    have hwy : (2 : Int) + (b : Int) % 99 = y := by omega
    have hx1 : x ≤ 100 := by omega
    have hy1 : y ≤ 100 := by omega
    go_enter Try.func8, Try.ntmps8
    go_wp2_with (first
      | (go_at_call 10; (with_reducible refine (HG.out).mono ?_); rintro e w1 ⟨rfl, hb⟩; have HB1 := Lib.hid hb; clear hb)
      | (go_at_call 11; (with_reducible refine ((HA _).out).mono ?_); rintro e w2 ⟨rfl, hb⟩; have HB2 := Lib.hid (bel0 HB1.out hb); clear hb)
      | (go_at_call 25; (with_reducible refine (H1.out _ HB2.out).mono ?_); rintro e w3 ⟨A3, n3, c3, v3, rfl, hn3, hc3, hR3, hb⟩; have HB3 := Lib.hid hb; have HN3 := Lib.hid hn3; have HC3 := Lib.hid hc3; have HR3 := Lib.hid hR3; clear hb hn3 hc3 hR3)
      | (go_at_call 25; (with_reducible refine (H2.out _ _ _ _ HN3.out HC3.out HR3.out).mono ?_); rintro e w4 ⟨A4, c4, v4, rfl, hR4, hb⟩; have HB4 := Lib.hid (bel0 HB3.out hb); have HR4 := Lib.hid hR4; clear hb hR4)
      | (go_at_call 25; (with_reducible refine (H3.out _ HB4.out).mono ?_); rintro e w5 ⟨A5, c5, v5, rfl, hR5, hb⟩; have HB5 := Lib.hid (bel0 HB4.out hb); have HR5 := Lib.hid hR5; have HR45 := Lib.hid (HR4.out.past hb); clear hb hR5)
      | (go_at_call 19; (with_reducible refine (HSM.out _ _ _ _ _ HR45.out HR5.out).mono ?_); rintro e w6 ⟨rfl, hb⟩; have HB6 := Lib.hid (bel0 HB5.out hb); clear hb))
    go_ret
    exact ⟨rfl, HB6.out⟩
theorem flowTwice_lawZ (A : Option Addr) (L : List Rw) (n c : Nat) (a b : Int) (ha : 0 ≤ a ∧ a ≤ 65535) (hb : 0 ≤ b ∧ b ≤ 65535) (hn : n = L.length) (hl : n ≤ 140737488355328) (hc : n ≤ c) (hr : ∀ i, i < n → (Ar L i).c.length ≤ 140737488355328) (w : World) (h : RR w A L) :
    Calls Try.prog 8 #[.slice A n c, .int .u16 a, .int .u16 b] w fun e w' => e = .returned (.bool true) ∧ Below w.heap.size w w' := by
  obtain ⟨x, rfl⟩ : ∃ x : Nat, a = x := ⟨a.toNat, by omega⟩
  obtain ⟨y, rfl⟩ : ∃ y : Nat, b = y := ⟨b.toNat, by omega⟩
  exact flowTwice_law A L n c x y hn hl hc hr (by omega) (by omega) w h
end Go.Proofs.Ytfjgfmeanehpmaa
