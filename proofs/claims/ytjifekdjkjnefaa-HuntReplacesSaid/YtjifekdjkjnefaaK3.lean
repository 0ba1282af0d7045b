/- The walk of hunt.New. -/
import Derived.Test.YtjifekdjkjnefaaK1
import Derived.Test.YtjifekdjkjnefaaK2
namespace Go.Proofs.Ytjifekdjkjnefaa
open Go.RowKit

/-- Rows of strings in memory. -/
def RT (w : World) (B : Nat) (A : Option Addr) (xs : List (List UInt8)) : Prop :=
  xs ≠ [] → ∃ b off, A = some ⟨b, off, none⟩ ∧ b < B ∧ ∀ k, k < xs.length → w.cell? ⟨b, off + k, none⟩ = some (.string (bsB (nAt xs k)))
theorem RT.below {w w' : World} {B : Nat} {A : Option Addr} {xs : List (List UInt8)} (h : RT w B A xs) (hb : Below B w w') : RT w' B A xs := fun hn => by
  obtain ⟨b, off, e, hlt, hc⟩ := h hn
  exact ⟨b, off, e, hlt, fun k hk => (hb.cell (p := ⟨b, off + k, none⟩) hlt).trans (hc k hk)⟩
theorem RT.more {w : World} {B B' : Nat} {A : Option Addr} {xs : List (List UInt8)} (h : RT w B A xs) (hB : B ≤ B') : RT w B' A xs := fun hn => by
  obtain ⟨b, off, e, hlt, hc⟩ := h hn
  exact ⟨b, off, e, Nat.lt_of_lt_of_le hlt hB, hc⟩
theorem RT.past {w w' : World} {A : Option Addr} {xs : List (List UInt8)} (h : RT w w.heap.size A xs) (hb : Below w.heap.size w w') : RT w' w'.heap.size A xs := (h.below hb).more hb.size
/-- A needle with the places that were found. -/
theorem pr_own {W : World} {B n c k : Nat} {A : Option Addr} {l : List Nat} (h : W.ownsRow B 3 1 (.slice A n c) n (intV l)) (hn : n = l.length) (hl : l ≠ []) (hk : k < 1000) : PR W ((k, l), .slice A n c) := by
  have hp := List.length_pos_iff.2 hl
  rcases h.2 with ⟨_, h0⟩ | ⟨g, cap, cur, e, _, h4, h5, _, h7, h8⟩
  · omega
  · injection e with e1 _ e3
    subst e1; subst e3
    refine ⟨g, 0, c, cur, by rw [hn], by show l.length ≤ c; omega, h4, fun m hm => ?_, hl, hk⟩
    have hm' : m < l.length := hm
    rw [Nat.zero_add, ← Array.getElem?_toList]
    have e1 : (cur.toList.take (n * 1))[m]? = (intV l)[m]? := by rw [h8]
    rw [List.getElem?_take, if_pos (by omega)] at e1
    rw [e1]
    unfold intV
    rw [List.getElem?_map, List.getElem?_eq_getElem hm']
    rfl
set_option maxRecDepth 100000 in
set_option maxHeartbeats 8000000 in
theorem new_any (T : List UInt8) (Ns : List (List UInt8)) (n c : Nat) (A : Option Addr) (hT : T.length ≤ 1000000) (hn : n = Ns.length) (hn2 : n ≤ 1000) (hNs : ∀ k, (nAt Ns k).length ≤ 1000000) (w : World) (hR : RT w w.heap.size A Ns) :
    Calls Try.prog 14 #[.string (bsB T), .slice A n c] w fun e w' => e = .returned (.pointer (some ⟨w.heap.size, 0, none⟩)) ∧ HQ w w.heap.size (hitsL T Ns) w' := by
  obtain ⟨i0, hi0, hz0, hz1, hz2⟩ := info_parts infoNd
  obtain ⟨W0, hW0⟩ : ∃ W0, W0 = w.alloc (.cells #[.slice none 0 0] 49) := ⟨_, rfl⟩
  have HQ0 : Hid (QM w w.heap.size [] W0) := Lib.hid (by
    rw [hW0]
    exact ⟨belA (Below.refl _ _) _, Nat.le_refl _, ⟨none, 0, heap_alloc_new w _, World.ownsRow_nil _ _ _ _⟩, fun e he => by simp at he⟩)
  have HALL : Hid (∀ k W, Calls Try.prog 23 #[.string (bsB T), .string (bsB (nAt Ns k))] W (IntsPost (pls idL T (nAt Ns k)) W)) := Lib.hid fun k W => all_any T (nAt Ns k) (by omega) (by have := hNs k; omega) W
  have HR := Lib.hid hR
  have HN := Lib.hid hn
  have HINIT : Hid (∀ E W, E.length ≤ 1000 → QM w w.heap.size E W → Calls Try.prog 25 #[.iface 53 (.pointer (some ⟨w.heap.size, 0, none⟩))] W fun e w' => e = .returned (.tuple #[]) ∧ ∃ E', QM w w.heap.size E' w' ∧ HF W w' ∧ HP E'.length 0 (ndE E') ∧ SameN (ndE E') (ndE E)) := Lib.hid fun E W hE hq => init_any w w.heap.size E (by omega) W hq
  have HREL := Lib.hid (rel_hits T Ns (by omega))
  rw [← hn] at HREL
  have HNL : Hid (∀ k, nL T Ns (k + 1) = nL T Ns k ++ if pls idL T (nAt Ns k) = [] then [] else [(k, pls idL T (nAt Ns k))]) := Lib.hid fun k => rfl
  have HNZ : Hid (nL T Ns 0 = []) := Lib.hid rfl
  have HW0 := Lib.hid hW0
  clear hR hn hNs hW0
  generalize bsB T = sT at *
  generalize hitsL T Ns = hL at *
  generalize nL T Ns = NL at *
  have hni : (n : Int) ≤ 1000 := by omega
  go_enter Try.func14, Try.ntmps14
  go_wp2
  rw [← HW0.out]
  go_loopw [13] (fun q wr => ∃ (k : Nat) (E : List Ent), q = .int .i64 k ∧ k ≤ n ∧ Hid (E.length ≤ k) ∧ Hid (ndE E = NL k) ∧ Hid (QM w w.heap.size E wr)) (fun q _ => n - (intOf q).toNat)
  case atStart => exact ⟨0, [], by go_num, Nat.zero_le _, Lib.hid (Nat.le_refl _), Lib.hid HNZ.out.symm, HQ0⟩
  case round =>
    obtain ⟨k, E, rfl, hk, HE, HNE, HQ⟩ := hrel
    by_cases hlt : k < n
    · have hki : (k : Int) < n := by omega
      obtain ⟨b, off, rfl, hblt, hc⟩ := HR.out (fun e => by have := HN.out; rw [e] at this; simp at this; omega)
      have hck : wr.cell? ⟨b, off + k, none⟩ = some (.string (bsB (nAt Ns k))) := (HQ.out.below.cell (p := ⟨b, off + k, none⟩) hblt).trans (hc k (by rw [← HN.out]; exact hlt))
      have HA := Lib.hid (HALL.out k wr)
      have HNX := Lib.hid (HNL.out k)
      have HQP := Lib.hid (fun W' (hW : Below wr.heap.size wr W') => HQ.out.past hW)
      clear hc hblt
      generalize pls idL T (nAt Ns k) = l at *
      generalize bsB (nAt Ns k) = sN at *
      unfold IntsPost at HA
      obtain ⟨m, hm⟩ : ∃ m, m = l.length := ⟨_, rfl⟩
      rw [← hm] at HA
      have HM := Lib.hid hm
      clear hm
      by_cases hl : m = 0
      · have hl0 : l = [] := List.eq_nil_of_length_eq_zero (by rw [← HM.out]; exact hl)
        have HNE2 : Hid (ndE E = NL (k + 1)) := Lib.hid (by rw [HNX.out, if_pos hl0, List.append_nil]; exact HNE.out)
        have HE2 : Hid (E.length ≤ k + 1) := Lib.hid (by have := HE.out; omega)
        have hmi : ¬ (0 : Int) < m := by omega
        clear hl hl0 HNX HNE
        go_wp2_with (go_at_call 23; (with_reducible refine (HA.out).mono ?_); rintro e w2 ⟨A2, c2, rfl, ho2, hb2⟩; have HQ2 := Lib.hid (HQP.out w2 hb2); clear ho2 hb2 HA)
        go_roundw
        case rel => exact ⟨k + 1, E, by go_num, hlt, HE2, HNE2, HQ2⟩
        case measure => simp [intOf]; omega
      · have hl0 : l ≠ [] := fun e => hl (by rw [HM.out, e]; rfl)
        have hmi : (0 : Int) < m := by omega
        have HNE2 : Hid (∀ v, ndE (E ++ [((k, l), v)]) = NL (k + 1)) := Lib.hid fun v => by rw [ndE_snoc, HNX.out, if_neg hl0, HNE.out]
        have HE2 : Hid (∀ v, (E ++ [((k, l), v)]).length ≤ k + 1) := Lib.hid fun v => by have := HE.out; simp; omega
        have HPR : Hid (∀ W2 A2 c2, W2.ownsRow wr.heap.size 3 1 (.slice A2 m c2) m (intV l) → PR W2 ((k, l), .slice A2 m c2)) := Lib.hid fun W2 A2 c2 h => pr_own h HM.out hl0 (by omega)
        have HPUT : Hid (∀ (W2 : World) (A2 A1 : Option Addr) (c2 c1 : Nat), QM w w.heap.size E W2 → PR W2 ((k, l), .slice A2 m c2) → W2.heap[w.heap.size]? = some (.cells #[.slice A1 E.length c1] 49 (0, 0)) → W2.ownsRow (w.heap.size + 1) 51 2 (.slice A1 E.length c1) E.length (eV E) → ∀ v8 w8, w8.ownsRow (w.heap.size + 1) 51 2 v8 (E.length + 1) (eV E ++ [.int .i64 (k : Nat), .slice A2 m c2]) → (W2.alloc (.cells #[.int .i64 (k : Nat), .slice A2 m c2] 51)).grownBy w8 (Value.slice A1 E.length c1).ownBlock → (v8.ownBlock = (Value.slice A1 E.length c1).ownBlock ∨ v8.ownBlock = some (W2.alloc (.cells #[.int .i64 (k : Nat), .slice A2 m c2] 51)).heap.size) → (w8.frozen? ⟨w.heap.size, 0, none⟩ = false ∧ ∃ o, w8.cell? ⟨w.heap.size, 0, none⟩ = some o) ∧ QM w w.heap.size (E ++ [((k, l), .slice A2 m c2)]) (w8.setCell ⟨w.heap.size, 0, none⟩ v8)) := Lib.hid fun W2 A2 A1 c2 c1 q1 q2 q3 q4 v8 w8 ho hg hv => by
          have := q1.put q3 q4 q2 (belA (Below.refl _ _) _) ho hg hv
          exact ⟨this.1, this.2.1⟩
        have hEl : E.length ≤ 1000 := by have := HE.out; omega
        clear hl hl0 HNX HNE
        go_wp2_with (first
          | (go_at_call 23; (with_reducible refine (HA.out).mono ?_); rintro e w2 ⟨A2, c2, rfl, ho2, hb2⟩; have HQ2 := Lib.hid (HQP.out w2 hb2); have HP2 := Lib.hid (HPR.out w2 A2 c2 ho2); obtain ⟨A1, c1, hx1, hx2⟩ := HQ2.out.box; have cb2 : w2.cell? ⟨w.heap.size, 0, none⟩ = some (.slice A1 E.length c1) := row_cell hx1 0 _ rfl; have hsz2 : w.heap.size + 1 ≤ (w2.alloc (.cells #[.int .i64 (k : Nat), .slice A2 m c2] 51)).heap.size := (by have := (Array.getElem?_eq_some_iff.1 hx1).1; simp; omega); have HO2 := Lib.hid (own_past hx2 (belA (Below.refl w2.heap.size w2) (.cells #[.int .i64 (k : Nat), .slice A2 m c2] 51))); have HEND := Lib.hid (HPUT.out w2 A2 A1 c2 c1 HQ2.out HP2.out hx1 hx2); clear ho2 hb2 HA hx1 hx2 HPUT)
          | (at_builtin; go_must (refine wpList_append_own_at _ rfl (.tmp 28) (.tmp 32) 47 rfl (w.heap.size + 1) 51 i0 _ 2 32 Try.underlying47 hi0 hz0 hz1 hz2 rfl (by decide) (.slice A1 E.length c1) E.length (eV E) rfl HO2.out ⟨w2.heap.size, 0, none⟩ 1 1 [.int .i64 (k : Nat), .slice A2 m c2] rfl rfl (news2 w2 _ _ _) (by simp [Value.oneCell']) (by unfold maxLen; omega) (by omega) hsz2 ?_; intro v8 w8 ho8 hg8 _ hb8; obtain ⟨A8, c9, rfl, _⟩ := own_formC ho8; obtain ⟨⟨f8, o8, c8⟩, hQ8⟩ := HEND.out _ _ ho8 hg8 hb8; have HQ8 := Lib.hid hQ8; clear ho8 hg8 hb8 hQ8)))
        go_roundw
        case rel => exact ⟨k + 1, _, by go_num, hlt, HE2.out _ |> Lib.hid, Lib.hid (HNE2.out _), HQ8⟩
        case measure => simp [intOf]; omega
    · obtain rfl : k = n := by omega
      have HRR : Hid (∀ E', SameN (ndE E') (ndE E) → Rel (ndE E') hL) := Lib.hid fun E' hs => (HREL.out).same (by rw [← HNE.out]; exact hs)
      have HI := Lib.hid (HINIT.out E wr (by have := HE.out; omega) HQ.out)
      have HLL : Hid (∀ E', SameN (ndE E') (ndE E) → E'.length ≤ 1000) := Lib.hid fun E' hs => by have h1 := hs.1; rw [ndE_len, ndE_len] at h1; have := HE.out; omega
      clear HINIT HREL HNE HQ HE
      go_wp2_with (go_at_call 25; (with_reducible refine (HI.out).mono ?_); rintro e w2 ⟨rfl, E2, q2, _, p2, s2⟩; have HF2 : Hid (HQ w w.heap.size hL w2) := Lib.hid ⟨E2, q2, p2, HRR.out E2 s2, HLL.out E2 s2⟩; clear q2 p2 s2)
      go_ret
      exact ⟨rfl, HF2.out⟩

end Go.Proofs.Ytjifekdjkjnefaa
