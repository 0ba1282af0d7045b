/- The walks of hunt.First and hunt.All. -/
import Derived.Test.YtjifekdjkjnefaaK3
import Derived.Deep.LoopGhost
namespace Go.Proofs.Ytjifekdjkjnefaa
open Go.RowKit

theorem infoHit : (Try.prog.info? 33).map (fun i => (i.zero, i.size, i.bytes)) = some (some (.agg #[.int .i64 0, .int .i64 0]), 2, 16) := by kernel_rfl
def htV (L : List (Nat × Nat)) : List Value := L.flatMap fun x => [.int .i64 (x.1 : Nat), .int .i64 (x.2 : Nat)]
theorem htV_snoc (L : List (Nat × Nat)) (a i : Nat) : htV (L ++ [(a, i)]) = htV L ++ [.int .i64 (a : Nat), .int .i64 (i : Nat)] := by simp [htV]
theorem own_hf {W W' : World} {B n : Nat} {v : Value} {xs : List Value} (h : W.ownsRow B 33 2 v n xs) (hf : HF W W') : W'.ownsRow B 33 2 v n xs :=
  ⟨h.1, h.2.imp id fun ⟨g, cap, cur, a1, a2, a3, a4⟩ => ⟨g, cap, cur, a1, a2, hf.keep g cur _ _ a3 (by decide) (by decide), a4⟩⟩
theorem QM.grown {w0 W W' : World} {b : Nat} {E : List Ent} {row : Option Nat} (h : QM w0 b E W) (hg : W.grownBy W' row) (hr : ∀ g, row = some g → w0.heap.size ≤ g ∧ ∃ cur, W.heap[g]? = some (.cells cur 33 (0, 0))) : QM w0 b E W' := by
  have hk : ∀ k cur t fz, W.heap[k]? = some (Obj.cells cur t fz) → t ≠ 33 → W'.heap[k]? = some (Obj.cells cur t fz) := fun k cur t fz hk ht => (hg.block k (Array.getElem?_eq_some_iff.1 hk).1 (fun e => by
    obtain ⟨_, cu, h2⟩ := hr k e.symm
    rw [hk] at h2
    simp only [Option.some.injEq, Obj.cells.injEq] at h2
    exact ht h2.2.1)).trans hk
  obtain ⟨A, c, h1, h2⟩ := h.box
  refine ⟨⟨hg.os.trans h.below.os, hg.tape.trans h.below.tape, hg.output.trans h.below.output, Nat.le_trans h.below.size hg.size, fun k hkl => (hg.block k (Nat.lt_of_lt_of_le hkl h.below.size) (fun e => by have := (hr k e.symm).1; omega)).trans (h.below.block k hkl)⟩, h.le, ⟨A, c, hk _ _ _ _ h1 (by decide), h2.1, ?_⟩, fun e he => ?_⟩
  · exact h2.2.imp id fun ⟨g, cap, cur, a1, a2, a3, a4⟩ => ⟨g, cap, cur, a1, a2, hk g cur _ _ a3 (by decide), a4⟩
  · obtain ⟨g, off, c, cu, e1, e2, e3, e4⟩ := h.pr e he
    exact ⟨g, off, c, cu, e1, e2, hk g cu _ _ e3 (by decide), e4⟩
theorem HQ.grown {w0 W W' : World} {b : Nat} {R : List (Nat × Nat)} {row : Option Nat} (h : HQ w0 b R W) (hg : W.grownBy W' row) (hr : ∀ g, row = some g → w0.heap.size ≤ g ∧ ∃ cur, W.heap[g]? = some (.cells cur 33 (0, 0))) : HQ w0 b R W' := by
  obtain ⟨E, h1, h2⟩ := h
  exact ⟨E, h1.grown hg hr, h2⟩
theorem own_block {W : World} {B n : Nat} {v : Value} {xs : List Value} (h : W.ownsRow B 33 2 v n xs) : ∀ g, v.ownBlock = some g → B ≤ g ∧ ∃ cur, W.heap[g]? = some (.cells cur 33 (0, 0)) := fun g e => by
  rcases h.2 with ⟨e2, _⟩ | ⟨g', cap, cur, e2, h3, h4, _⟩
  · rw [e2] at e
    exact absurd e (by simp [Value.ownBlock])
  · rw [e2] at e
    have e3 : g' = g := by simpa [Value.ownBlock] using e
    subst e3
    exact ⟨h3, cur, h4⟩
/-- Hits in a slice of one's own. -/
def HitsPost (L : List (Nat × Nat)) (w : World) (e : Ending) (w' : World) : Prop := ∃ A c, e = .returned (.slice A L.length c) ∧ w'.ownsRow w.heap.size 33 2 (.slice A L.length c) L.length (htV L) ∧ Below w.heap.size w w'
set_option maxRecDepth 100000 in
set_option maxHeartbeats 8000000 in
theorem first_any (T : List UInt8) (Ns : List (List UInt8)) (n c : Nat) (A : Option Addr) (hT : T.length ≤ 1000000) (hn : n = Ns.length) (hn2 : n ≤ 1000) (hNs : ∀ k, (nAt Ns k).length ≤ 1000000) (hb : (hitsL T Ns).length ≤ 1000000) (z : Int) (w : World) (hR : RT w w.heap.size A Ns) :
    Calls Try.prog 17 #[.string (bsB T), .int .i64 z, .slice A n c] w (HitsPost ((hitsL T Ns).take z.toNat) w) := by
  obtain ⟨i0, hi0, hz0, hz1, hz2⟩ := info_parts infoHit
  have HNEW := Lib.hid (new_any T Ns n c A hT hn hn2 hNs w hR)
  have HNN : Hid (∀ W, HQ w w.heap.size [] W → Calls Try.prog 16 #[.pointer (some ⟨w.heap.size, 0, none⟩)] W fun e w' => e = .returned (.tuple #[.agg #[.int .i64 0, .int .i64 0], .bool false]) ∧ NextPost w w.heap.size [] W w') := Lib.hid fun W h => next_none w w.heap.size W h
  have HNS : Hid (∀ a i R W, HQ w w.heap.size ((a, i) :: R) W → Calls Try.prog 16 #[.pointer (some ⟨w.heap.size, 0, none⟩)] W fun e w' => e = .returned (.tuple #[.agg #[.int .i64 (a : Nat), .int .i64 (i : Nat)], .bool true]) ∧ NextPost w w.heap.size R W w') := Lib.hid fun a i R W h => next_some w w.heap.size a i R W h
  unfold HitsPost
  generalize hitsL T Ns = HL at *
  obtain ⟨TK, htk⟩ : ∃ TK, TK = HL.take z.toNat := ⟨_, rfl⟩
  rw [← htk]
  have HTK := Lib.hid htk
  clear htk
  clear hn hNs hR hT hn2
  generalize bsB T = sT at *
  go_enter Try.func17, Try.ntmps17
  go_wp2_with (go_at_call 14; (with_reducible refine (HNEW.out).mono ?_); rintro e w1 ⟨rfl, hq1⟩; have HQ1 := Lib.hid hq1; clear hq1 HNEW)
  go_loopg [7] HL.length (fun gh s7 wr => ∃ (m : Nat) (A1 : Option Addr) (c1 : Nat) (D R : List (Nat × Nat)), s7 = .slice A1 m c1 ∧ gh = R.length ∧ m ≤ 1000000 ∧ (m : Int) ≤ max z 0 ∧ Hid (HL = D ++ R) ∧ Hid (m = D.length) ∧ Hid (wr.ownsRow w.heap.size 33 2 (.slice A1 m c1) m (htV D)) ∧ Hid (HQ w w.heap.size R wr))
  case atStart => exact ⟨0, none, 0, [], HL, rfl, rfl, by omega, by omega, Lib.hid rfl, Lib.hid rfl, Lib.hid (World.ownsRow_nil _ _ _ _), HQ1⟩
  case round =>
    obtain ⟨m, A1, c1, D, R, rfl, hgh, hm, hmz, HD, HM, HO, HQR⟩ := hrel
    by_cases hlt : (m : Int) < z
    · cases R with
      | nil =>
        have HN1 := Lib.hid (HNN.out wr HQR.out)
        have HFD : Hid (TK = D) := Lib.hid (by rw [HTK.out, HD.out, List.append_nil, List.take_of_length_le (by have := HM.out; omega)])
        have HOH := Lib.hid (fun W (hf : HF wr W) => own_hf HO.out hf)
        clear HD HQR
        go_wp2_with (go_at_call 16; (with_reducible refine (HN1.out).mono ?_); rintro e w2 ⟨rfl, hp2⟩; have HP2 := Lib.hid hp2; have HB2 := Lib.hid (belA hp2.1.choose_spec.1.below (.cells #[.int .i64 0, .int .i64 0] 33)); have HO2 := Lib.hid (own_past (HOH.out w2 hp2.2) (belA (Below.refl w2.heap.size w2) (.cells #[.int .i64 0, .int .i64 0] 33))); clear hp2 HN1)
        go_ret
        exact ⟨A1, c1, by rw [HFD.out, ← HM.out]; rfl, by rw [HFD.out, ← HM.out]; exact HO2.out, HB2.out⟩
      | cons x R' =>
        obtain ⟨a, i⟩ := x
        have HN1 := Lib.hid (HNS.out a i R' wr HQR.out)
        have hRl : R'.length < gk := by rw [hgh]; simp
        have HD2 : Hid (HL = (D ++ [(a, i)]) ++ R') := Lib.hid (by rw [HD.out]; simp)
        have HM2 : Hid (m + 1 = (D ++ [(a, i)]).length) := Lib.hid (by rw [List.length_append, ← HM.out]; rfl)
        have hm1 : m + 1 ≤ 1000000 := by
          have h1 := congrArg List.length HD2.out
          rw [List.length_append, ← HM2.out] at h1
          omega
        have HHV := Lib.hid (htV_snoc D a i)
        have HOH := Lib.hid (fun W (hf : HF wr W) => own_hf HO.out hf)
        clear HD HM HQR HO
        generalize D ++ [(a, i)] = D2 at *
        generalize htV D = os at *
        go_wp2_with (first
          | (go_at_call 16; (with_reducible refine (HN1.out).mono ?_); rintro e w2 ⟨rfl, hp2⟩; obtain ⟨w3, HW3⟩ : ∃ w3, Hid (w3 = (w2.alloc (.cells #[.int .i64 (a : Nat), .int .i64 (i : Nat)] 33)).alloc (.cells #[.int .i64 (a : Nat), .int .i64 (i : Nat)] 33)) := ⟨_, Lib.hid rfl⟩; have hb3 : Below w2.heap.size w2 w3 := (by rw [HW3.out]; exact belA (belA (Below.refl _ _) _) _); have HQ3 := Lib.hid (hp2.1.past hb3); have HO3 := Lib.hid (own_past (HOH.out w2 hp2.2) hb3); have HB3 := Lib.hid (bel0 hp2.1.choose_spec.1.below hb3); have HS3 := HB3.out.size; have hnw := news2 (w2.alloc (.cells #[.int .i64 (a : Nat), .int .i64 (i : Nat)] 33)) (.int .i64 (a : Nat)) (.int .i64 (i : Nat)) 33; rw [← HW3.out] at hnw; have HNW := Lib.hid hnw; have HSZ : Hid ((w2.alloc (.cells #[.int .i64 (a : Nat), .int .i64 (i : Nat)] 33)).heap.size = w2.heap.size + 1) := Lib.hid (by simp); clear hp2 hb3 hnw HN1)
          | (at_builtin; go_must (rw [← HW3.out]; refine wpList_append_own _ rfl (.tmp 25) (.tmp 27) 26 rfl w.heap.size 33 i0 _ 2 16 Try.underlying26 hi0 hz0 hz1 hz2 rfl (by decide) (.slice A1 m c1) m os rfl HO3.out ⟨w2.heap.size + 1, 0, none⟩ 1 1 [.int .i64 (a : Nat), .int .i64 (i : Nat)] rfl rfl (by rw [← HSZ.out]; exact HNW.out) (by simp [Value.oneCell']) (by unfold maxLen; omega) (by omega) HS3 ?_; intro v8 w8 ho8 hg8 _; obtain ⟨A8, c9, rfl, _⟩ := own_formC ho8; have HO8 := Lib.hid ho8; have HQ8 := Lib.hid (HQ3.out.grown hg8 (own_block HO3.out)); clear ho8 hg8)))
        go_roundg R'.length
        case measure => omega
        case rel => exact ⟨m + 1, A8, c9, D2, R', rfl, rfl, hm1, by omega, HD2, HM2, Lib.hid (by rw [HHV.out]; exact HO8.out), HQ8⟩
    · have HFD : Hid (TK = D) := Lib.hid (by rw [HTK.out, HD.out, show z.toNat = D.length by have := HM.out; omega, List.take_left])
      have HB2 := Lib.hid (HQR.out.choose_spec.1.below)
      clear HD HQR
      go_wp2
      go_ret
      exact ⟨A1, c1, by rw [HFD.out, ← HM.out]; rfl, by rw [HFD.out, ← HM.out]; exact HO.out, HB2.out⟩
set_option maxRecDepth 100000 in
theorem allH_any (T : List UInt8) (Ns : List (List UInt8)) (n c : Nat) (A : Option Addr) (hT : T.length ≤ 1000000) (hn : n = Ns.length) (hn2 : n ≤ 1000) (hNs : ∀ k, (nAt Ns k).length ≤ 1000000) (hb : (hitsL T Ns).length ≤ 1000000) (w : World) (hR : RT w w.heap.size A Ns) :
    Calls Try.prog 12 #[.string (bsB T), .slice A n c] w (HitsPost (hitsL T Ns) w) := by
  have h1 := first_any T Ns n c A hT hn hn2 hNs hb 9223372036854775807 w hR
  rw [List.take_of_length_le (by omega)] at h1
  have HA := Lib.hid h1
  clear h1 hR hNs hn hn2
  unfold HitsPost at *
  generalize hitsL T Ns = HL at *
  generalize HL.length = m at *
  generalize htV HL = os at *
  generalize bsB T = sT at *
  go_enter Try.func12, Try.ntmps12
  go_wp2_with (go_at_call 17; (with_reducible refine (HA.out).mono ?_); rintro e w3 ⟨A3, c3, rfl, h3⟩; have H3 := Lib.hid h3; clear h3)
  go_ret
  exact ⟨A3, c3, rfl, H3.out⟩

end Go.Proofs.Ytjifekdjkjnefaa
