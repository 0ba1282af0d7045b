/- Reflowed with places; the law FlowOrder. -/
import Derived.Test.YtfjgfmeanehpmaaLk
import Derived.Deep.DeepCutAuto
namespace Go.Proofs.Ytfjgfmeanehpmaa
open Go.RowKit

/-- Reflowed, with places. -/
theorem reflow_places (A Al : Option Addr) (L : List Rw) (n c m nl cl : Nat) (ps : List (Int × Int)) (hn : n = L.length) (hc : n ≤ c) (h2 : 2 ≤ m) (hm : m ≤ 1000) (hr : ∀ i, i < n → (Ar L i).c.length ≤ 1000000) (hf : (flat L).length ≤ 100000) (hl : n ≤ 1000) (hr' : ∀ i, i < (reflowL m L).length → (Ar (reflowL m L) i).c.length ≤ 1000000000) (hl' : (reflowL m L).length ≤ 1000000) (hf' : (flat (reflowL m L)).length ≤ 1000000000)
    (hnl : nl = ps.length) (hll : nl ≤ 1000) (w : World) (h : RR w A L) (hp : RK encPI 2 w Al ps) :
    Calls Try.prog 25 #[.slice A n c, .int .i64 m, .slice Al nl cl] w fun e w' => ∃ A' c' g, e = .returned (.tuple #[.slice A' (reflowL m L).length c', .slice (some ⟨g, 0, none⟩) nl nl]) ∧ (reflowL m L).length ≤ c' ∧ RR w' A' (reflowL m L) ∧ PZ w' g (fun k => movedP m L (ps[k]?.getD (0, 0)).1 (ps[k]?.getD (0, 0)).2) nl nl ∧ Below w.heap.size w w' := by
  refine (reflow_any A L n c m (.slice Al nl cl) (fun v w' => ∃ g, v = .slice (some ⟨g, 0, none⟩) nl nl ∧ PZ w' g (fun k => movedP m L (ps[k]?.getD (0, 0)).1 (ps[k]?.getD (0, 0)).2) nl nl) hn (by omega) hc h2 hm (fun i hi => by have := hr i hi; omega) hf w h fun W A' c' hW hR hc' => ?_).mono fun e w' ⟨A', c', v, he, h1, h3, ⟨g, hv, hz⟩, hb⟩ => ⟨A', c', g, by rw [he, hv], h1, h3, hz, hb⟩
  exact (moved_any A A' Al L m n c _ c' nl cl ps hn rfl (by omega) hl' hc hc' (fun i hi => by have := hr i hi; omega) hr' (by omega) hf' hnl hll W (h.past hW) hR (hp.past hW)).mono fun e w' ⟨g, he, hz, hb⟩ => ⟨_, he, ⟨g, rfl, hz⟩, hb⟩
theorem alloc2d (w : World) (o1 o2 : Obj) : ((w.alloc o1).alloc o2).drew.heap[w.heap.size]? = some o1 ∧ ((w.alloc o1).alloc o2).drew.heap[w.heap.size + 1]? = some o2 ∧ Below w.heap.size w ((w.alloc o1).alloc o2).drew := by
  obtain ⟨h1, h2, _, _, _⟩ := alloc3 w o1 o2 o2
  have b := belA (Below.refl ((w.alloc o1).alloc o2).heap.size ((w.alloc o1).alloc o2)) o2
  refine ⟨(b.block _ (by simp; omega)).symm.trans h1, (b.block _ (by simp)).symm.trans h2, (belA (belA (Below.refl _ _) _) _).drew⟩
theorem rk_two (W : World) (pr pc qr qc : Int) (t : TypeId) : RK encPI 2 (W.alloc (.cells #[.int .i64 pr, .int .i64 pc, .int .i64 qr, .int .i64 qc] t)) (some ⟨W.heap.size, 0, none⟩) [(pr, pc), (qr, qc)] := fun _ => by
  have h := heap_alloc_new W (.cells #[.int .i64 pr, .int .i64 pc, .int .i64 qr, .int .i64 qc] t)
  refine ⟨W.heap.size, 0, rfl, lt_alloc _ _, fun i x hx j u hu => ?_⟩
  rw [cell_of_row _ _ (0 + i * 2 + j) _ _ _ h]
  match i, hx with
  | 0, hx =>
    cases hx
    match j, hu with
    | 0, hu => cases hu; rfl
    | 1, hu => cases hu; rfl
    | j + 2, hu => simp [encPI] at hu
  | 1, hx =>
    cases hx
    match j, hu with
    | 0, hu => cases hu; rfl
    | 1, hu => cases hu; rfl
    | j + 2, hu => simp [encPI] at hu
  | i + 2, hx => simp at hx
theorem rk_twoS (W : World) (g : Nat) (pr pc qr qc : Int) (t : TypeId) (hg : W.heap.size = g) : RK encPI 2 (W.alloc (.cells #[.int .i64 pr, .int .i64 pc, .int .i64 qr, .int .i64 qc] t)) (some ⟨g, 0, none⟩) [(pr, pc), (qr, qc)] := by
  subst hg
  exact rk_two W pr pc qr qc t
set_option maxRecDepth 100000 in
set_option maxHeartbeats 8000000 in
theorem flowOrder_law (A : Option Addr) (L : List Rw) (n c a : Nat) (ar ac br bc : Int) (hn : n = L.length) (hl : n ≤ 140737488355328) (hc : n ≤ c) (hr : ∀ i, i < n → (Ar L i).c.length ≤ 140737488355328) (ha : a < 65536) (w : World) (h : RR w A L) :
    Calls Try.prog 9 #[.slice A n c, .int .u16 a, .agg #[.int .i64 ar, .int .i64 ac, .int .i64 br, .int .i64 bc]] w fun e w' => e = .returned (.bool true) ∧ Below w.heap.size w w' := by
  have HG := fun W (hW : Below w.heap.size w W) => Lib.hid (great_any A L n c hn hl hr W (h.past hW))
  have HA := fun W => Lib.hid (awake_any W)
  cases hsm : smallB L with
  | false =>
    rw [hsm] at HG
    clear hr h hn hsm
    have HB0 := Lib.hid (belA (Below.refl w.heap.size w) (.cells #[.int .i64 ar, .int .i64 ac, .int .i64 br, .int .i64 bc] 59))
    go_enter Try.func9, Try.ntmps9
    go_wp2_with (first
      | (go_at_call 10; (with_reducible refine ((HG _ HB0.out).out).mono ?_); rintro e w1 ⟨rfl, hb⟩; have HB1 := Lib.hid (bel0 HB0.out hb); clear hb)
      | (go_at_call 11; (with_reducible refine ((HA _).out).mono ?_); rintro e w2 ⟨rfl, hb⟩; have HB2 := Lib.hid (bel0 HB1.out hb); clear hb))
    go_ret
    exact ⟨rfl, HB2.out⟩
  | true =>
    rw [hsm] at HG
    have hs : Small L := of_decide_eq_true hsm
    obtain ⟨s1, s2, s3⟩ := small_rows hs
    have s4 := small_sum hs
    obtain ⟨x, hx⟩ : ∃ x, 2 + a % 99 = x := ⟨_, rfl⟩
    obtain ⟨r1, r2, r3⟩ := reflow_rows x (by omega) (by omega) L 600 s4
    have HR : Hid (∀ W A2 c2 pr pc qr qc, Below w.heap.size w W → RK encPI 2 W A2 [(pr, pc), (qr, qc)] → (pr < qr ∨ pr = qr ∧ pc ≤ qc) → Calls Try.prog 25 #[.slice A n c, .int .i64 x, .slice A2 2 c2] W fun e w' => ∃ A' n' c' g x0 y0 x1 y1, e = .returned (.tuple #[.slice A' n' c', .slice (some ⟨g, 0, none⟩) 2 2]) ∧ (∀ V, Below w'.heap.size w' V → V.cell? ⟨g, 0, none⟩ = some (.int .i64 (x0 : Nat)) ∧ V.cell? ⟨g, 1, none⟩ = some (.int .i64 (y0 : Nat)) ∧ V.cell? ⟨g, 2, none⟩ = some (.int .i64 (x1 : Nat)) ∧ V.cell? ⟨g, 3, none⟩ = some (.int .i64 (y1 : Nat))) ∧ lexle (x0, y0) (x1, y1) ∧ Below W.heap.size W w') := Lib.hid fun W A2 c2 pr pc qr qc hW hp hle => by
      refine (reflow_places A A2 L n c x 2 c2 [(pr, pc), (qr, qc)] hn hc (by omega) (by omega) (fun i hi => by have := s2 i (by omega); omega) (by omega) (by omega) (fun i hi => by have := r1 i hi; omega) (by omega) (by omega) rfl (by omega) W (h.past hW) hp).mono fun e w' ⟨A', c', g, he, _, _, hz, hb⟩ => ?_
      have hmo := movedP_mono x L pr qr pc qc hle
      refine ⟨A', _, c', g, (movedP x L pr pc).1, (movedP x L pr pc).2, (movedP x L qr qc).1, (movedP x L qr qc).2, he, fun V hV => ?_, hmo, hb⟩
      obtain ⟨_, _, z⟩ := hz.past hV
      have z0 := z 0 (by omega)
      have z1 := z 1 (by omega)
      exact ⟨z0.1, z0.2, z1.1, z1.2⟩
    clear h hn hr r1 r2 r3 s1 s2 s3 s4 hs hsm
    have hwx : (2 : Int) + (a : Int) % 99 = x := by omega
    have hx1 : x ≤ 100 := by omega
    have HB0 := Lib.hid (belA (Below.refl w.heap.size w) (.cells #[.int .i64 ar, .int .i64 ac, .int .i64 br, .int .i64 bc] 59))
    have HX0 := Lib.hid (heap_alloc_new w (.cells #[.int .i64 ar, .int .i64 ac, .int .i64 br, .int .i64 bc] 59))
    have hcs : (br < ar ∧ decide (br < ar) = true) ∨ (br = ar ∧ bc < ac ∧ decide (bc < ac) = true) ∨ (br = ar ∧ ac ≤ bc ∧ decide (bc < ac) = false) ∨ (ar < br ∧ decide (br < ar) = false ∧ (br == ar) = false) := by
      rcases Int.lt_trichotomy br ar with h | h | h
      · exact .inl ⟨h, decide_eq_true h⟩
      · rcases Int.lt_or_le bc ac with h1 | h1
        · exact .inr (.inl ⟨h, h1, decide_eq_true h1⟩)
        · exact .inr (.inr (.inl ⟨h, h1, decide_eq_false (by omega)⟩))
      · exact .inr (.inr (.inr ⟨h, decide_eq_false (by omega), by simp; omega⟩))
    go_enter Try.func9, Try.ntmps9
    go_wp2_with (first
      | (go_at_call 10; (with_reducible refine ((HG _ HB0.out).out).mono ?_); rintro e w1 ⟨rfl, hb⟩; have HB1 := Lib.hid hb; clear hb)
      | (go_at_call 11; (with_reducible refine ((HA _).out).mono ?_); rintro e w2 ⟨rfl, hb⟩; have HB2 := Lib.hid (bel0 HB1.out hb); clear hb))
    have hx0 := HX0.out
    have hlt0 := (Array.getElem?_eq_some_iff.1 hx0).1
    have y0 := (HB2.out.cell (p := ⟨w.heap.size, 0, none⟩) hlt0).trans (cell_of_row _ _ 0 _ _ _ hx0)
    have y1 := (HB2.out.cell (p := ⟨w.heap.size, 1, none⟩) hlt0).trans (cell_of_row _ _ 1 _ _ _ hx0)
    have y2 := (HB2.out.cell (p := ⟨w.heap.size, 2, none⟩) hlt0).trans (cell_of_row _ _ 2 _ _ _ hx0)
    have y3 := (HB2.out.cell (p := ⟨w.heap.size, 3, none⟩) hlt0).trans (cell_of_row _ _ 3 _ _ _ hx0)
    have HBW := Lib.hid (bel0 HB0.out HB2.out)
    have hw2 := Nat.lt_of_lt_of_le hlt0 HB2.out.size
    clear hx0 hlt0 HB0 HB1 HB2 HX0 HG HA
    go_cut [7, 8] (fun s7 s8 wx => ∃ P Q : Nat, s7 = .pointer (some ⟨P, 0, none⟩) ∧ s8 = .pointer (some ⟨Q, 0, none⟩) ∧ Hid (wx.heap[P]? = some (.cells #[.int .i64 ar, .int .i64 ac] 39 (0, 0)) ∧ wx.heap[Q]? = some (.cells #[.int .i64 br, .int .i64 bc] 39 (0, 0)) ∧ P ≠ Q ∧ w2.heap.size ≤ P ∧ w2.heap.size ≤ Q ∧ Below w2.heap.size w2 wx))
    case first =>
      have HC1 : Hid (∀ wx, ((w2.alloc (.cells #[.int .i64 ar, .int .i64 ac] 39)).alloc (.cells #[.int .i64 br, .int .i64 bc] 39)).drew = wx → wx.heap[w2.heap.size]? = some (.cells #[.int .i64 ar, .int .i64 ac] 39 (0, 0)) ∧ wx.heap[w2.heap.size + 1]? = some (.cells #[.int .i64 br, .int .i64 bc] 39 (0, 0)) ∧ w2.heap.size ≠ w2.heap.size + 1 ∧ w2.heap.size ≤ w2.heap.size ∧ w2.heap.size ≤ w2.heap.size + 1 ∧ Below w2.heap.size w2 wx) := Lib.hid fun wx h => by
        subst h
        obtain ⟨h1, h2, h3⟩ := alloc2d w2 (.cells #[.int .i64 ar, .int .i64 ac] 39) (.cells #[.int .i64 br, .int .i64 bc] 39)
        exact ⟨h1, h2, by omega, by omega, by omega, h3⟩
      have HC2 : Hid (∀ wx, ((w2.alloc (.cells #[.int .i64 br, .int .i64 bc] 39)).alloc (.cells #[.int .i64 ar, .int .i64 ac] 39)).drew = wx → wx.heap[w2.heap.size + 1]? = some (.cells #[.int .i64 ar, .int .i64 ac] 39 (0, 0)) ∧ wx.heap[w2.heap.size]? = some (.cells #[.int .i64 br, .int .i64 bc] 39 (0, 0)) ∧ w2.heap.size + 1 ≠ w2.heap.size ∧ w2.heap.size ≤ w2.heap.size + 1 ∧ w2.heap.size ≤ w2.heap.size ∧ Below w2.heap.size w2 wx) := Lib.hid fun wx h => by
        subst h
        obtain ⟨h1, h2, h3⟩ := alloc2d w2 (.cells #[.int .i64 br, .int .i64 bc] 39) (.cells #[.int .i64 ar, .int .i64 ac] 39)
        exact ⟨h2, h1, by omega, by omega, by omega, h3⟩
      clear hcs HR HBW
      go_region_law (fail)
      all_goals
        go_wp2
        go_meet
        case rel =>
          first
            | exact ⟨_, _, rfl, rfl, Lib.hid (HC1.out _ rfl)⟩
            | exact ⟨_, _, rfl, rfl, Lib.hid (HC2.out _ rfl)⟩
    case rest =>
      obtain ⟨P, Q, rfl, rfl, HF⟩ := hcut
      obtain ⟨x1, x2, hPQ, hg0, hg1, x5⟩ := HF.out
      have HB3 := Lib.hid (bel0 HBW.out x5)
      have hgw := HBW.out.size
      have hQP : Q ≠ P := fun e => hPQ e.symm
      have hgP : w.heap.size ≤ P := by omega
      have hgQ : w.heap.size ≤ Q := by omega
      clear HF x5 y0 y1 y2 y3
      obtain ⟨a0, a1, af, al⟩ := cell2_of x1
      obtain ⟨b0, b1, bf, bl⟩ := cell2_of x2
      have af0 := af 0
      have af1 := af 1
      have bf0 := bf 0
      have bf1 := bf 1
      clear af bf x1 x2
      rcases hcs with ⟨h, d1⟩ | ⟨rfl, h, d3⟩ | ⟨rfl, h, d3⟩ | ⟨h, d1, d2⟩
      all_goals
        go_wp2_with fail
        go_at_call 25
        (with_reducible refine (HR.out _ _ 2 _ _ _ _ (by repeat (first | (with_reducible exact HB3.out) | (with_reducible refine belA ?_ _) | (with_reducible refine belW ?_ (by assumption)))) (rk_twoS _ _ _ _ _ _ _ (by simp only [World.size_setCell])) (by first | exact .inl h | exact .inr ⟨rfl, h⟩ | exact .inr ⟨rfl, Int.le_of_lt h⟩)).mono ?_)
        rintro e w6 ⟨A6, n6, c6, g6, x0, y0, x1, y1, rfl, hV, hle, hb⟩
        obtain ⟨z0, z1, z2, z3⟩ := hV w6 (Below.refl _ _)
        have HB6 : Hid (Below w.heap.size w w6) := Lib.hid (bel0 (by repeat (first | (with_reducible exact HB3.out) | (with_reducible refine belA ?_ _) | (with_reducible refine belW ?_ (by assumption)))) hb)
        clear hV hb a0 a1 b0 b1 af0 af1 bf0 bf1 h
        have hle : x0 < x1 ∨ x0 = x1 ∧ y0 ≤ y1 := hle
        rcases hle with h1 | ⟨rfl, h1⟩
        all_goals
          first
            | (have e1 : decide ((x0 : Int) < (x1 : Int)) = true := decide_eq_true (by omega))
            | (have e1 : decide ((y0 : Int) ≤ (y1 : Int)) = true := decide_eq_true (by omega))
          go_wp2_with fail
          go_quiet (fail)
          go_wp2
          go_ret
          exact ⟨rfl, bel0 HB6.out (belN' _ _)⟩
theorem flowOrder_lawZ (A : Option Addr) (L : List Rw) (n c : Nat) (a ar ac br bc : Int) (ha : 0 ≤ a ∧ a ≤ 65535) (hn : n = L.length) (hl : n ≤ 140737488355328) (hc : n ≤ c) (hr : ∀ i, i < n → (Ar L i).c.length ≤ 140737488355328) (w : World) (h : RR w A L) :
    Calls Try.prog 9 #[.slice A n c, .int .u16 a, .agg #[.int .i64 ar, .int .i64 ac, .int .i64 br, .int .i64 bc]] w fun e w' => e = .returned (.bool true) ∧ Below w.heap.size w w' := by
  obtain ⟨x, rfl⟩ : ∃ x : Nat, a = x := ⟨a.toNat, by omega⟩
  exact flowOrder_law A L n c x ar ac br bc hn hl hc hr (by omega) w h
end Go.Proofs.Ytfjgfmeanehpmaa
