/- The walk of hunt.Longest, over the memory of its gathering. -/
import Derived.Test.YtjifekdjkjnefaaK8
import Derived.Maps.AppendAt
namespace Go.Proofs.Ytjifekdjkjnefaa
open Go.RowKit

/-- A hit is one of the needles' in the text. -/
def InB (n : Nat) (x : Nat × Nat) : Prop := x.1 ≤ 1000000 ∧ x.2 < n
theorem lgS_ge {Ns : List (List UInt8)} {D : List (Nat × Nat)} {en : Nat} {x : Nat × Nat} (h : en ≤ x.1) : lgS Ns (D, en) x = (D ++ [x], x.1 + (nAt Ns x.2).length) := if_pos h
theorem lgS_put {Ns : List (List UInt8)} {D : List (Nat × Nat)} {en : Nat} {x : Nat × Nat} (h : ¬ en ≤ x.1) (h2 : x.1 = (D.getLast?.getD (0, 0)).1 ∧ en < x.1 + (nAt Ns x.2).length) : lgS Ns (D, en) x = (D.dropLast ++ [x], x.1 + (nAt Ns x.2).length) := by
  unfold lgS
  rw [if_neg h, if_pos h2]
theorem lgS_no {Ns : List (List UInt8)} {D : List (Nat × Nat)} {en : Nat} {x : Nat × Nat} (h : ¬ en ≤ x.1) (h2 : ¬ (x.1 = (D.getLast?.getD (0, 0)).1 ∧ en < x.1 + (nAt Ns x.2).length)) : lgS Ns (D, en) x = (D, en) := by
  unfold lgS
  rw [if_neg h, if_neg h2]
/-- Where Longest is: a hit in its box, if there is one still. -/
def LGo (Ns : List (List UInt8)) (w W : World) (HL : List (Nat × Nat)) (B : Nat) (A : Option Addr) (m c en : Nat) (ok : Bool) (gh : Nat) : Prop :=
  ∃ D x R, LR w W B D A m c R x ∧ (0 < en → 0 < m) ∧ (ok = true → gh = R.length + 1 ∧ (R.foldl (lgS Ns) (lgS Ns (D, en) x)).1 = lgL Ns HL ∧ ∀ y ∈ x :: R, y ∈ HL) ∧ (ok = false → D = lgL Ns HL)
/-- The next hit is laid into a box of its own. -/
theorem LR.turn {w W w' : World} {B m c a i : Nat} {D R R' : List (Nat × Nat)} {A : Option Addr} {x : Nat × Nat} {o : Array Value} (h : LR w W B D A m c R x) (hf : HF (W.alloc (.cells o 33)) w') (ho : o.size = 2) (hq : HQ w w.heap.size R' w') :
    (∃ u0 u1, w'.cell? ⟨W.heap.size, 0, none⟩ = some u0 ∧ w'.cell? ⟨W.heap.size, 1, none⟩ = some u1) ∧ (w'.frozen? ⟨W.heap.size, 0, none⟩ = false ∧ w'.frozen? ⟨W.heap.size, 1, none⟩ = false) ∧ LR w ((w'.setCell ⟨W.heap.size, 0, none⟩ (.int .i64 (a : Nat))).setCell ⟨W.heap.size, 1, none⟩ (.int .i64 (i : Nat))) W.heap.size D A m c R' (a, i) := by
  have hB := hf.keep _ _ _ _ (heap_alloc_new W (.cells o 33)) (by decide) (by decide)
  have g2 := row_set (row_set hB 0 (.int .i64 (a : Nat))) 1 (.int .i64 (i : Nat))
  have hle := h.le
  have hlt := h.lt
  have ho2 := own_hf (own_past h.own (belA (Below.refl W.heap.size W) (.cells o 33))) hf
  have hne : (Value.slice A m c).ownBlock ≠ some W.heap.size := fun e => by have := (h.own.lt _ e).2; omega
  obtain ⟨v0, v1, rfl⟩ : ∃ v0 v1, o = #[v0, v1] := by
    obtain ⟨l⟩ := o
    match l, ho with
    | [v0, v1], _ => exact ⟨v0, v1, rfl⟩
  refine ⟨⟨v0, v1, row_cell hB 0 _ rfl, row_cell hB 1 _ rfl⟩, ⟨row_free hB 0, row_free hB 1⟩, ⟨?_, by rw [g2]; rfl, by omega, h.len, ?_, hne⟩⟩
  · obtain ⟨E, hq1, hq2⟩ := hq
    exact ⟨E, hq1.hit hB (by omega) rfl rfl rfl (by rw [World.size_setCell, World.size_setCell]) (fun k hk => (Below.heap_setCell _ _ _ k hk).trans (Below.heap_setCell _ _ _ k hk)), hq2⟩
  · exact ho2.kept (row := some W.heap.size) ⟨rfl, rfl, rfl, by simp [World.setCell], fun k _ hk => (Below.heap_setCell _ _ _ _ (fun e => hk (by simp [e]))).trans (Below.heap_setCell _ _ _ _ (fun e => hk (by simp [e])))⟩ (.inr hne)
set_option maxRecDepth 100000 in
set_option maxHeartbeats 8000000 in
theorem longest_any (T : List UInt8) (Ns : List (List UInt8)) (n c : Nat) (A : Option Addr) (hT : T.length ≤ 1000000) (hn : n = Ns.length) (hn2 : n ≤ 1000) (hNs : ∀ k, (nAt Ns k).length ≤ 1000000) (hb : (hitsL T Ns).length ≤ 1000000) (w : World) (hR : RT w w.heap.size A Ns) :
    Calls Try.prog 18 #[.string (bsB T), .slice A n c] w (HitsPost (lgL Ns (hitsL T Ns)) w) := by
  obtain ⟨i0, hi0, hz0, hz1, hz2⟩ := info_parts infoHit
  have HNEW := Lib.hid (new_any T Ns n c A hT hn hn2 hNs w hR)
  have HNN : Hid (∀ W, HQ w w.heap.size [] W → Calls Try.prog 16 #[.pointer (some ⟨w.heap.size, 0, none⟩)] W fun e w' => e = .returned (.tuple #[.agg #[.int .i64 0, .int .i64 0], .bool false]) ∧ NextPost w w.heap.size [] W w') := Lib.hid fun W h => next_none w w.heap.size W h
  have HNS : Hid (∀ (a i : Nat) R W, HQ w w.heap.size ((a, i) :: R) W → Calls Try.prog 16 #[.pointer (some ⟨w.heap.size, 0, none⟩)] W fun e w' => e = .returned (.tuple #[.agg #[.int .i64 (a : Nat), .int .i64 (i : Nat)], .bool true]) ∧ NextPost w w.heap.size R W w') := Lib.hid fun a i R W h => next_some w w.heap.size a i R W h
  have HNEXT : Hid (∀ R W, HQ w w.heap.size R W → Calls Try.prog 16 #[.pointer (some ⟨w.heap.size, 0, none⟩)] W fun e w' => ∃ (a i : Nat) (ok : Bool) (R' : List (Nat × Nat)), e = .returned (.tuple #[.agg #[.int .i64 (a : Nat), .int .i64 (i : Nat)], .bool ok]) ∧ HQ w w.heap.size R' w' ∧ HF W w' ∧ (ok = true → R = (a, i) :: R') ∧ (ok = false → R = [])) := Lib.hid fun R W h => by
    cases R with
    | nil => exact (HNN.out W h).mono fun e w' hp => ⟨0, 0, false, [], hp.1, hp.2.1, hp.2.2, fun e => (by cases e), fun _ => rfl⟩
    | cons x R' => exact (HNS.out x.1 x.2 R' W h).mono fun e w' hp => ⟨x.1, x.2, true, R', hp.1, hp.2.1, hp.2.2, fun _ => rfl, fun e => (by cases e)⟩
  have HIN : Hid (∀ y ∈ hitsL T Ns, InB n y) := Lib.hid fun y hy => by
    have := mem_hU.1 hy
    exact ⟨by omega, by rw [hn]; exact this.2.1⟩
  have HR := Lib.hid hR
  have HN := Lib.hid hn
  have HNL := Lib.hid hNs
  clear HNN HNS
  unfold HitsPost
  obtain ⟨LL, hll⟩ : ∃ LL, LL = lgL Ns (hitsL T Ns) := ⟨_, rfl⟩
  rw [← hll]
  have HLL := Lib.hid hll
  generalize hitsL T Ns = HL at *
  clear hn hNs hR hT hn2 hll
  generalize bsB T = sT at *
  go_enter Try.func18, Try.ntmps18
  go_wp2_with (first
    | (go_at_call 14; (with_reducible refine (HNEW.out).mono ?_); rintro e w1 ⟨rfl, hq1⟩; have HQ1 := Lib.hid hq1; have HN1 := Lib.hid (HNEXT.out HL w1 hq1); clear hq1 HNEW)
    | (go_at_call 16; (with_reducible refine (HN1.out).mono ?_); rintro e w2 ⟨a, i, ok, R2, rfl, hq2, hf2, ht2, hf2'⟩; have HQ2 := Lib.hid (And.intro hq2 (And.intro ht2 hf2')); clear hq2 hf2 ht2 hf2' HN1))
  go_loopg [5, 6, 8, 9] (if ok = true then HL.length else 0) (fun gh s5 s6 s8 s9 wx => ∃ (A1 : Option Addr) (m c1 en B : Nat) (ok : Bool), s5 = .slice A1 m c1 ∧ s6 = .int .i64 en ∧ s8 = .pointer (some ⟨B, 0, none⟩) ∧ s9 = .bool ok ∧ en ≤ 2000000 ∧ m + gh ≤ HL.length ∧ Hid (LGo Ns w wx HL B A1 m c1 en ok gh))
  case atStart =>
    refine ⟨none, 0, 0, 0, w2.heap.size, ok, rfl, rfl, rfl, rfl, by omega, by split <;> omega, Lib.hid ⟨[], (a, i), R2, ⟨HQ2.out.1.past (belA (Below.refl _ _) _), heap_alloc_new w2 _, by have := HQ2.out.1.choose_spec.1.below.size; exact this, rfl, World.ownsRow_nil _ _ _ _, by simp [Value.ownBlock]⟩, fun e => absurd e (by omega), fun e => ?_, fun e => ?_⟩⟩
    · have h1 := HQ2.out.2.1 e
      rw [if_pos e]
      refine ⟨by rw [h1]; rfl, by rw [h1]; rfl, fun y hy => by rw [h1]; exact hy⟩
    · rw [HQ2.out.2.2 e]
      rfl
  case round =>
    clear HQ1 HQ2
    obtain ⟨A1, m, c1, en, B, ok2, rfl, rfl, rfl, rfl, hen, hmg, HG⟩ := hrel
    cases ok2 with
    | false =>
      have HZ : Hid (LL.length = m ∧ wr.ownsRow w.heap.size 33 2 (.slice A1 m c1) m (htV LL) ∧ Below w.heap.size w wr) := Lib.hid (by
        obtain ⟨D, x, R, h1, _, _, h4⟩ := HG.out
        have h5 := h4 rfl
        rw [HLL.out, ← h5]
        exact ⟨h1.len.symm, h1.own, h1.q.choose_spec.1.below⟩)
      clear HG HNEXT
      go_wp2
      go_ret
      exact ⟨A1, c1, by rw [HZ.out.1]; rfl, by rw [HZ.out.1]; exact HZ.out.2.1, HZ.out.2.2⟩
    | true =>
      obtain ⟨D, ⟨x0, x1⟩, R, hLR, hpos, h3, _⟩ := HG.out
      obtain ⟨hgk, hfo, hmem⟩ := h3 rfl
      have hin := HIN.out (x0, x1) (hmem _ List.mem_cons_self)
      have hx0 : x0 ≤ 1000000 := hin.1
      have hx1 : x1 < n := hin.2
      have hx1i : (x1 : Int) < n := by omega
      obtain ⟨b, off, rfl, hblt, hc⟩ := HR.out (fun e => by have := HN.out; rw [e] at this; simp at this; omega)
      have hck : wr.cell? ⟨b, off + x1, none⟩ = some (.string (bsB (nAt Ns x1))) := (hLR.q.choose_spec.1.below.cell (p := ⟨b, off + x1, none⟩) hblt).trans (hc x1 (by rw [← HN.out]; exact hx1))
      have hnl := HNL.out x1
      have hsz : ((bsB (nAt Ns x1)).size : Int) = (nAt Ns x1).length := by rw [bsB_size]
      obtain ⟨he, hhe⟩ : ∃ he, he = x0 + (nAt Ns x1).length := ⟨_, rfl⟩
      have hwe : IntKind.i64.wrap ((x0 : Int) + (nAt Ns x1).length) = (he : Int) := by rw [IntKind.wrap_i64]; omega
      have hhb : he ≤ 2000000 := by omega
      have HPOS := Lib.hid hpos
      have HFO := Lib.hid hfo
      have HMEM := Lib.hid hmem
      have HGE : Hid (en ≤ x0 → lgS Ns (D, en) (x0, x1) = (D ++ [(x0, x1)], he)) := Lib.hid fun h => by rw [hhe]; exact lgS_ge h
      have HPT : Hid (¬ en ≤ x0 → (x0 = (D.getLast?.getD (0, 0)).1 ∧ en < he) → lgS Ns (D, en) (x0, x1) = (D.dropLast ++ [(x0, x1)], he)) := Lib.hid fun h h2 => by rw [hhe] at h2 ⊢; exact lgS_put h h2
      have HNP : Hid (¬ en ≤ x0 → ¬ (x0 = (D.getLast?.getD (0, 0)).1 ∧ en < he) → lgS Ns (D, en) (x0, x1) = (D, en)) := Lib.hid fun h h2 => by rw [hhe] at h2; exact lgS_no h h2
      obtain ⟨b0, b1⟩ := hLR.cells
      change wr.cell? ⟨B, 0, none⟩ = some (.int .i64 (x0 : Nat)) at b0
      change wr.cell? ⟨B, 1, none⟩ = some (.int .i64 (x1 : Nat)) at b1
      have HLN := Lib.hid (fun k => hLR.past (belN' wr k))
      clear hc hblt hpos hfo hmem h3 HG hin hhe hnl
      generalize (nAt Ns x1).length = nl at *
      generalize bsB (nAt Ns x1) = sN at *
      go_wp2_with fail
      go_quiet (fail)
      have hL3 := HLN.out nq
      clear HLN b0 b1 hck hLR
      generalize wr.drewN nq = w3 at *
      obtain ⟨b0, b1⟩ := hL3.cells
      change w3.cell? ⟨B, 0, none⟩ = some (.int .i64 (x0 : Nat)) at b0
      change w3.cell? ⟨B, 1, none⟩ = some (.int .i64 (x1 : Nat)) at b1
      have HL3 := Lib.hid hL3
      clear hL3
      have HEND : Hid (∀ (D2 : List (Nat × Nat)) (en2 : Nat) (A2 : Option Addr) (m2 c2 B9 : Nat) (W9 : World) (a9 i9 : Nat) (ok9 : Bool) (R9 : List (Nat × Nat)), lgS Ns (D, en) (x0, x1) = (D2, en2) → (0 < en2 → 0 < m2) → LR w W9 B9 D2 A2 m2 c2 R9 (a9, i9) → (ok9 = true → R = (a9, i9) :: R9) → (ok9 = false → R = []) → LGo Ns w W9 HL B9 A2 m2 c2 en2 ok9 (if ok9 = true then R.length else 0)) := Lib.hid fun D2 en2 A2 m2 c2 B9 W9 a9 i9 ok9 R9 q1 q2 q3 q4 q5 => by
        refine ⟨D2, (a9, i9), R9, q3, q2, fun e => ?_, fun e => ?_⟩
        · have h1 := q4 e
          have h2 := HFO.out
          rw [q1, h1] at h2
          rw [if_pos e, h1]
          exact ⟨rfl, h2, fun y hy => HMEM.out y (by rw [h1]; exact List.mem_cons_of_mem _ hy)⟩
        · have h1 := q5 e
          have h2 := HFO.out
          rw [q1, h1] at h2
          exact h2
      have hRk : R.length + 1 = gk := hgk.symm
      clear HFO HMEM hgk
      by_cases hge : en ≤ x0
      · have hgi : (en : Int) ≤ x0 := by omega
        have HS := Lib.hid (HGE.out hge)
        have hml : m ≤ 1000000 := by omega
        have hsz3 := (belA HL3.out.q.choose_spec.1.below (.cells #[.int .i64 (x0 : Nat), .int .i64 (x1 : Nat)] 33)).size
        have HO4 := Lib.hid (own_past HL3.out.own (belA (Below.refl w3.heap.size w3) (.cells #[.int .i64 (x0 : Nat), .int .i64 (x1 : Nat)] 33)))
        clear hge HGE HPT HNP
        go_wp2_with (first
          | (at_builtin; go_must (refine wpList_append_own_at _ rfl (.tmp 39) (.tmp 41) 26 rfl w.heap.size 33 i0 _ 2 16 Try.underlying26 hi0 hz0 hz1 hz2 rfl (by decide) (.slice A1 m c1) m (htV D) rfl HO4.out ⟨w3.heap.size, 0, none⟩ 1 1 [.int .i64 (x0 : Nat), .int .i64 (x1 : Nat)] rfl rfl (news2 w3 _ _ _) (by simp [Value.oneCell']) (by unfold maxLen; omega) (by omega) hsz3 ?_; intro v8 w8 ho8 hg8 _ hb8; obtain ⟨A8, c9, rfl, _⟩ := own_formC ho8; have hl8 := HL3.out.app (y := (x0, x1)) (belA (Below.refl _ _) _) ho8 hg8 hb8; obtain ⟨y0, y1⟩ := hl8.cells; have HL8 := Lib.hid hl8; clear ho8 hg8 hb8 hl8))
          | (go_at_call 16; (with_reducible refine (HNEXT.out R _ (HL8.out.q.past (belA (Below.refl _ _) _))).mono ?_); rintro e w9 ⟨a9, i9, ok9, R9, rfl, hq9, hf9, ht9, hn9⟩; obtain ⟨⟨u0, u1, cu0, cu1⟩, ⟨fu0, fu1⟩, hl9⟩ := HL8.out.turn (a := a9) (i := i9) hf9 rfl hq9; have HL9 := Lib.hid hl9; have HT9 := Lib.hid (And.intro ht9 hn9); clear hq9 hf9 ht9 hn9 hl9))
        go_roundg (if ok9 = true then R.length else 0)
        case measure => (split <;> omega)
        case rel => exact ⟨A8, m + 1, c9, he, _, ok9, rfl, rfl, rfl, rfl, by omega, by (split <;> omega), Lib.hid (HEND.out _ _ _ _ _ _ _ _ _ _ _ HS.out (fun _ => by omega) HL9.out HT9.out.1 HT9.out.2)⟩
      · have hgi : ¬ (en : Int) ≤ x0 := by omega
        have hpm := HPOS.out (by omega)
        obtain ⟨m', hm'⟩ : ∃ m', m = m' + 1 := ⟨m - 1, by omega⟩
        subst hm'
        obtain ⟨g, cur, rfl, hwg, hG, hgB, hcs, hl0, hl1⟩ := HL3.out.row
        have HPT2 := Lib.hid (HPT.out hge)
        have HNP2 := Lib.hid (HNP.out hge)
        have hcl := row_cell hG _ _ hl0
        have hwm : IntKind.i64.wrap ((m' : Int) + 1 - 1) = m' := by rw [IntKind.wrap_i64]; omega
        have hmi : (m' : Int) < (m' : Int) + 1 := by omega
        have HLN := Lib.hid (fun k => HL3.out.past (belN' w3 k))
        have HGN : Hid (∀ k, (w3.drewN k).heap[g]? = some (.cells cur 33 (0, 0))) := Lib.hid fun k => hG
        have HCS := Lib.hid (And.intro hcs (And.intro hl0 hl1))
        clear hge HPT HNP HGE hG hcs hl0 hl1
        generalize (D.getLast?.getD (0, 0)).1 = la at *
        generalize (D.getLast?.getD (0, 0)).2 = lw at *
        by_cases hxa : x0 = la
        · have hxb : ((x0 : Int) == la) = true := by simp; omega
          by_cases hhe : en < he
          · have hd : decide ((en : Int) < he) = true := decide_eq_true (by omega)
            have hdi : (en : Int) < he := by omega
            have HS := Lib.hid (HPT2.out ⟨hxa, hhe⟩)
            clear hxa hhe HPT2 HNP2
            go_wp2_with fail
            go_quiet (fail)
            have hG4 := HGN.out nq
            have hL4 := HLN.out nq
            clear HGN HLN hcl b0 b1
            generalize w3.drewN nq = w4 at *
            obtain ⟨y0, y1⟩ := hL4.cells
            change w4.cell? ⟨B, 0, none⟩ = some (.int .i64 (x0 : Nat)) at y0
            change w4.cell? ⟨B, 1, none⟩ = some (.int .i64 (x1 : Nat)) at y1
            have hcl4 := row_cell hG4 _ _ HCS.out.2.1
            have fr0 := row_free hG4 (m' * 2)
            have g1 := row_set hG4 (m' * 2) (.int .i64 (x0 : Nat))
            have fr1 := row_free g1 (m' * 2 + 1)
            obtain ⟨xx, e1⟩ := row_has g1 (m' * 2 + 1) (by have := HCS.out.1; simp; omega)
            have hlX := hL4.put (y := (x0, x1)) hG4 rfl
            obtain ⟨z0, z1⟩ := hlX.cells
            have HLX := Lib.hid hlX
            clear hlX g1 hG4 hL4
            go_wp2_with (go_at_call 16; (with_reducible refine (HNEXT.out R _ (HLX.out.q.past (belA (Below.refl _ _) _))).mono ?_); rintro e w9 ⟨a9, i9, ok9, R9, rfl, hq9, hf9, ht9, hn9⟩; obtain ⟨⟨u0, u1, cu0, cu1⟩, ⟨fu0, fu1⟩, hl9⟩ := HLX.out.turn (a := a9) (i := i9) hf9 rfl hq9; simp only [World.size_setCell] at cu0 cu1 fu0 fu1 hl9; have HL9 := Lib.hid hl9; have HT9 := Lib.hid (And.intro ht9 hn9); clear hq9 hf9 ht9 hn9 hl9)
            go_roundg (if ok9 = true then R.length else 0)
            case measure => (split <;> omega)
            case rel => exact ⟨some ⟨g, 0, none⟩, m' + 1, c1, he, _, ok9, rfl, rfl, rfl, rfl, by omega, by (split <;> omega), Lib.hid (HEND.out _ _ _ _ _ _ _ _ _ _ _ HS.out (fun _ => by omega) HL9.out HT9.out.1 HT9.out.2)⟩
          · have hd : decide ((en : Int) < he) = false := decide_eq_false (by omega)
            have hdi : ¬ (en : Int) < he := by omega
            have HS := Lib.hid (HNP2.out fun e => hhe e.2)
            clear hxa hhe HPT2 HNP2
            go_wp2_with fail
            go_quiet (fail)
            have hG4 := HGN.out nq
            have hL4 := HLN.out nq
            clear HGN HLN hcl b0 b1
            generalize w3.drewN nq = w4 at *
            obtain ⟨y0, y1⟩ := hL4.cells
            change w4.cell? ⟨B, 0, none⟩ = some (.int .i64 (x0 : Nat)) at y0
            change w4.cell? ⟨B, 1, none⟩ = some (.int .i64 (x1 : Nat)) at y1
            have HLX := Lib.hid hL4
            clear hG4 hL4
            go_wp2_with (go_at_call 16; (with_reducible refine (HNEXT.out R _ (HLX.out.q.past (belA (Below.refl _ _) _))).mono ?_); rintro e w9 ⟨a9, i9, ok9, R9, rfl, hq9, hf9, ht9, hn9⟩; obtain ⟨⟨u0, u1, cu0, cu1⟩, ⟨fu0, fu1⟩, hl9⟩ := HLX.out.turn (a := a9) (i := i9) hf9 rfl hq9; have HL9 := Lib.hid hl9; have HT9 := Lib.hid (And.intro ht9 hn9); clear hq9 hf9 ht9 hn9 hl9)
            go_roundg (if ok9 = true then R.length else 0)
            case measure => (split <;> omega)
            case rel => exact ⟨some ⟨g, 0, none⟩, m' + 1, c1, en, _, ok9, rfl, rfl, rfl, rfl, by omega, by (split <;> omega), Lib.hid (HEND.out _ _ _ _ _ _ _ _ _ _ _ HS.out (fun _ => by omega) HL9.out HT9.out.1 HT9.out.2)⟩
        · have hxb : ((x0 : Int) == la) = false := by simp; omega
          have HS := Lib.hid (HNP2.out fun e => hxa e.1)
          clear hxa HPT2 HNP2
          go_wp2_with fail
          go_quiet (fail)
          have hG4 := HGN.out nq
          have hL4 := HLN.out nq
          clear HGN HLN hcl b0 b1
          generalize w3.drewN nq = w4 at *
          obtain ⟨y0, y1⟩ := hL4.cells
          change w4.cell? ⟨B, 0, none⟩ = some (.int .i64 (x0 : Nat)) at y0
          change w4.cell? ⟨B, 1, none⟩ = some (.int .i64 (x1 : Nat)) at y1
          have HLX := Lib.hid hL4
          clear hG4 hL4
          go_wp2_with (go_at_call 16; (with_reducible refine (HNEXT.out R _ (HLX.out.q.past (belA (Below.refl _ _) _))).mono ?_); rintro e w9 ⟨a9, i9, ok9, R9, rfl, hq9, hf9, ht9, hn9⟩; obtain ⟨⟨u0, u1, cu0, cu1⟩, ⟨fu0, fu1⟩, hl9⟩ := HLX.out.turn (a := a9) (i := i9) hf9 rfl hq9; have HL9 := Lib.hid hl9; have HT9 := Lib.hid (And.intro ht9 hn9); clear hq9 hf9 ht9 hn9 hl9)
          go_roundg (if ok9 = true then R.length else 0)
          case measure => (split <;> omega)
          case rel => exact ⟨some ⟨g, 0, none⟩, m' + 1, c1, en, _, ok9, rfl, rfl, rfl, rfl, by omega, by (split <;> omega), Lib.hid (HEND.out _ _ _ _ _ _ _ _ _ _ _ HS.out (fun _ => by omega) HL9.out HT9.out.1 HT9.out.2)⟩

end Go.Proofs.Ytjifekdjkjnefaa
