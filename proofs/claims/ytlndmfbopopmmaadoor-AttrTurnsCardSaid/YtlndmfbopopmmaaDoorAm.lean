/- The walk of Turn. -/
import Derived.Test.YtlndmfbopopmmaaDoorAl
namespace Go.Proofs.YtlndmfbopopmmaaDoor
open Go.RowKit

def lenOf (v : Value) : Nat := match v with | .slice _ n _ => n | _ => 0
theorem RG.rest {w : World} {B b off d : Nat} {g : List Int} {t : List (List Int)} (h : RG w B (some ⟨b, off, none⟩) (g :: t)) : RG w B (some ⟨b, off + (d + 1), none⟩) (t.drop d) := RG.drop (d + 1) h
/-- The state of Turn's loop. -/
structure TS (w W : World) (a0 : AT) (L0 : List (List Int)) (a : AT) (L : List (List Int)) (A : Option Addr) (n c : Nat) : Prop where
  ab : AB w W a
  eq : turnP a0 L0 = turnP a L
  len : n = L.length
  cap : n ≤ c
  rg : RG w w.heap.size A L
  ne : ∀ g ∈ L, g ≠ []
theorem TS.next {w W W' : World} {a0 : AT} {L0 : List (List Int)} {a : AT} {g : List Int} {t : List (List Int)} {b off n c : Nat} (h : TS w W a0 L0 a (g :: t) (some ⟨b, off, none⟩) n c) {a' : AT} {d : Nat} (hs : stepP a g t = (a', d)) (hd : d ≤ t.length) (hab : AB w W' a') :
    TS w W' a0 L0 a' (t.drop d) (some ⟨b, off + (d + 1), none⟩) (n - (d + 1)) (c - (d + 1)) := by
  have hl := h.len
  have hc := h.cap
  simp only [List.length_cons] at hl
  refine ⟨hab, ?_, ?_, by omega, RG.drop (d + 1) h.rg, fun x hx => h.ne x (List.mem_cons_of_mem _ (List.mem_of_mem_drop hx))⟩
  · rw [h.eq, turnP_cons, hs]
  · rw [List.length_drop]; omega
theorem TS.last {w W W' : World} {a0 : AT} {L0 : List (List Int)} {a : AT} {g : List Int} {t : List (List Int)} {A A' : Option Addr} {n c : Nat} (h : TS w W a0 L0 a (g :: t) A n c) {a' : AT} {d : Nat} (hs : stepP a g t = (a', d)) (hd : c = d + 1) (hd2 : d ≤ t.length) (hab : AB w W' a') :
    TS w W' a0 L0 a' (t.drop d) A' 0 0 := by
  have hl := h.len
  have hc := h.cap
  simp only [List.length_cons] at hl
  have e : t.drop d = [] := List.drop_eq_nil_of_le (by omega)
  refine ⟨hab, ?_, by rw [e]; rfl, Nat.le_refl _, by rw [e]; exact fun h => absurd rfl h, fun x hx => by rw [e] at hx; simp at hx⟩
  rw [h.eq, turnP_cons, hs]

theorem res5 {w W : World} (h : Below w.heap.size w W) (v0 v1 v2 v3 v4 : Value) : Below w.heap.size w (((((W.setCell ⟨w.heap.size + 1, 0, none⟩ v0).setCell ⟨w.heap.size + 1, 1, none⟩ v1).setCell ⟨w.heap.size + 1, 2, none⟩ v2).setCell ⟨w.heap.size + 1, 3, none⟩ v3).setCell ⟨w.heap.size + 1, 4, none⟩ v4) :=
  ((((h.setCell (p := ⟨w.heap.size + 1, 0, none⟩) (Nat.le_succ _) _).setCell (p := ⟨w.heap.size + 1, 1, none⟩) (Nat.le_succ _) _).setCell (p := ⟨w.heap.size + 1, 2, none⟩) (Nat.le_succ _) _).setCell (p := ⟨w.heap.size + 1, 3, none⟩) (Nat.le_succ _) _).setCell (p := ⟨w.heap.size + 1, 4, none⟩) (Nat.le_succ _) _
set_option maxRecDepth 100000 in
set_option maxHeartbeats 16000000 in
theorem turn_any (a : AT) (A : Option Addr) (L : List (List Int)) (n c : Nat) (hn : n = L.length) (hc : n ≤ c) (hne : ∀ g ∈ L, g ≠ []) (hv : ∀ g ∈ L, hd0 g ≤ 65535) (w : World) (hT : TT w) (hR : RG w w.heap.size A L) :
    Calls Tryd.prog 13 #[a.val, .slice A n c] w fun e w' => e = .returned (turnP a L).val ∧ Below w.heap.size w w' := by
  have HT := Lib.hid hT
  have HV := Lib.hid hv
  have HS0 : Hid (TS w ((w.alloc (.cells #[.int .i64 a.fk, .int .i64 a.fn, .int .i64 a.bk, .int .i64 a.bn, .int .i64 a.fl] 25)).alloc (.cells #[.int .i64 0, .int .i64 0, .int .i64 0, .int .i64 0, .int .i64 0] 25)) a L a L A n c) := Lib.hid ⟨AB.start w a, rfl, hn, hc, hR, hne⟩
  obtain ⟨fin, hfin⟩ : ∃ fin, turnP a L = fin := ⟨_, rfl⟩
  rw [hfin]
  show Calls Tryd.prog 13 #[.agg #[.int .i64 a.fk, .int .i64 a.fn, .int .i64 a.bk, .int .i64 a.bn, .int .i64 a.fl], .slice A n c] w fun e w' => e = .returned (.agg #[.int .i64 fin.fk, .int .i64 fin.fn, .int .i64 fin.bk, .int .i64 fin.bn, .int .i64 fin.fl]) ∧ Below w.heap.size w w'
  have HFIN := Lib.hid hfin
  have HMEM : Hid (∀ g ∈ L, g ∈ L) := Lib.hid fun g h => h
  clear hT hR hn hne hfin hv
  go_enter Tryd.func13, Tryd.ntmps13
  go_wp2
  go_loopw [1] (fun l wr => ∃ (a' : AT) (L' : List (List Int)) (A' : Option Addr) (n' c' : Nat), l = .slice A' n' c' ∧ Hid (∀ g ∈ L', g ∈ L) ∧ Hid (TS w wr a L a' L' A' n' c')) (fun l _ => lenOf l)
  case atStart => exact ⟨a, L, A, n, c, rfl, HMEM, HS0⟩
  case round =>
    clear HS0 HMEM hc
    obtain ⟨x, L', A', m, d, rfl, HMEM, HS⟩ := hrel
    cases L' with
    | nil =>
      obtain rfl : m = 0 := HS.out.len
      have HE : Hid (fin = x) := Lib.hid (by rw [← HFIN.out, HS.out.eq, turnP])
      obtain ⟨⟨x0, x1, x2, x3, x4⟩, f0, f1, f2, f3, f4⟩ := HS.out.ab.cells
      obtain ⟨⟨y0, y1, y2, y3, y4⟩, g0, g1, g2, g3, g4⟩ := HS.out.ab.outs
      have hzz := lt_of_block HS.out.ab.res
      go_wp2
      refine bodyPost_ret (v := .agg #[.int .i64 fin.fk, .int .i64 fin.fn, .int .i64 fin.bk, .int .i64 fin.bn, .int .i64 fin.fl]) (by rw [HE.out]; simp [results, Tryd.results13, go_sem, y0, y1, y2, y3, y4]) rfl ⟨rfl, ?_⟩
      exact res5 HS.out.ab.below _ _ _ _ _
    | cons g t =>
      obtain ⟨b, off, e, hbb, hcx⟩ := HS.out.rg (by simp)
      subst e
      obtain ⟨A0, c0, hc0, hri, _⟩ := hcx 0 (by simp)
      have HC0 : Hid (∀ W, Below w.heap.size w W → W.cell? ⟨b, off, none⟩ = some (.slice A0 g.length c0)) := Lib.hid fun W hW => (hW.cell (p := ⟨b, off, none⟩) hbb).trans hc0
      have HF0 : Hid (∀ W, Below w.heap.size w W → Calls Tryd.prog 22 #[.slice A0 g.length c0] W fun e w' => e = .returned (.int .i64 (hd0 g)) ∧ Below W.heap.size W w') := Lib.hid fun W hW => first_row c0 (hri.below hW)
      have HFN : Hid (∀ W, Below w.heap.size w W → Calls Tryd.prog 26 #[.slice A0 g.length c0] W fun e w' => e = .returned (.int .i64 (flagN g)) ∧ Below W.heap.size W w') := Lib.hid fun W hW => flagNumber_any c0 (HS.out.ne g (by simp)) (hri.below hW)
      have HTU : Hid (∀ f v W, Below w.heap.size w W → Calls Tryd.prog 25 #[.int .i64 f, .int .i64 v] W fun e w' => e = .returned (.int .i64 (turnZ f v)) ∧ Below W.heap.size W w') := Lib.hid fun f v W hW => turned_any f v W (HT.out.below hW)
      have HTO : Hid (∀ k0 n0 W, Below w.heap.size w W → Calls Tryd.prog 23 #[.agg #[.int .i64 k0, .int .i64 n0], .slice (some ⟨b, off, none⟩) m d] W fun e w' => e = .returned (.tuple #[.agg #[.int .i64 (toldP (k0, n0) g t).1.1, .int .i64 (toldP (k0, n0) g t).1.2], .int .i64 (toldP (k0, n0) g t).2]) ∧ Below W.heap.size W w') := Lib.hid fun k0 n0 W hW => told_any k0 n0 (some ⟨b, off, none⟩) g t m d HS.out.len HS.out.cap W ((HS.out.rg.below hW).more hW.size)
      have hml : m = t.length + 1 := HS.out.len
      have hmd := HS.out.cap
      have HMT : Hid (∀ k, ∀ r ∈ t.drop k, r ∈ L) := Lib.hid fun k r hr => HMEM.out r (List.mem_cons_of_mem _ (List.mem_of_mem_drop hr))
      have hvv : hd0 g ≤ 65535 := HV.out g (HMEM.out g (by simp))
      have hv0 : 0 ≤ hd0 g := by unfold hd0 most0Z; split <;> omega
      have hcc := HC0.out _ HS.out.ab.below
      have hm0 : (0 : Int) < m := by omega
      have hm1 : (1 : Int) ≤ m := by omega
      have hmdi : (m : Int) ≤ d := by omega
      have HML := Lib.hid hml
      have HAB0 := Lib.hid HS.out.ab
      clear hcx hc0 hri hbb HMEM HV HT hml
      obtain ⟨⟨x0, x1, x2, x3, x4⟩, f0, f1, f2, f3, f4⟩ := HAB0.out.cells
      by_cases hz : hd0 g = 0
      · have HST : Hid (stepP x g t = (AT.zero, 0)) := Lib.hid (by unfold stepP; rw [if_pos hz])
        rw [hz] at HF0
        clear HTO HTU HFN hvv hv0 hz
        generalize g.length = gl at *
        by_cases hd1 : d = 1
        · subst hd1
          obtain rfl : m = 1 := by omega
          go_wp2_with (go_at_call 22; (with_reducible refine (HF0.out _ HAB0.out.below).mono ?_); rintro e w1 ⟨rfl, hb1⟩; have HAB1 := Lib.hid (HAB0.out.past hb1); obtain ⟨⟨x0, x1, x2, x3, x4⟩, f0, f1, f2, f3, f4⟩ := HAB1.out.cells; clear hb1)
          go_roundw
          case rel => exact ⟨_, _, _, _, _, rfl, Lib.hid (HMT.out 0), Lib.hid (HS.out.last HST.out rfl (by omega) HAB1.out.clean)⟩
          case measure => simp [lenOf]
        · go_wp2_with (go_at_call 22; (with_reducible refine (HF0.out _ HAB0.out.below).mono ?_); rintro e w1 ⟨rfl, hb1⟩; have HAB1 := Lib.hid (HAB0.out.past hb1); obtain ⟨⟨x0, x1, x2, x3, x4⟩, f0, f1, f2, f3, f4⟩ := HAB1.out.cells; clear hb1)
          go_roundw
          case rel => exact ⟨_, _, _, _, _, rfl, Lib.hid (HMT.out 0), Lib.hid (HS.out.next HST.out (by omega) HAB1.out.clean)⟩
          case measure => simp [lenOf]; omega
      by_cases hv : hd0 g = 38
      · have htd := told_done (x.fk, x.fn) g t
        have HST : Hid (stepP x g t = (⟨(toldP (x.fk, x.fn) g t).1.1, (toldP (x.fk, x.fn) g t).1.2, x.bk, x.bn, x.fl⟩, (toldP (x.fk, x.fn) g t).2 - 1)) := Lib.hid (by unfold stepP; rw [if_neg hz, if_pos hv])
        have HT8 := Lib.hid (HTO.out x.fk x.fn)
        rw [hv] at HF0
        clear HTO HTU HFN hvv hv0 hz hv
        generalize (toldP (x.fk, x.fn) g t).1.1 = ck at *
        generalize (toldP (x.fk, x.fn) g t).1.2 = cn at *
        generalize (toldP (x.fk, x.fn) g t).2 = q at *
        obtain ⟨htd1, htd2⟩ := htd
        generalize g.length = gl at *
        by_cases hdq : d = q
        · have hmq : m = q := by have := HML.out; omega
          have hle : m - 1 ≤ t.length := by have := HML.out; omega
          clear HML
          subst hdq
          subst hmq
          go_wp2_with (first | (go_at_call 22; (with_reducible refine (HF0.out _ HAB0.out.below).mono ?_); rintro e w1 ⟨rfl, hb1⟩; have HAB1 := Lib.hid (HAB0.out.past hb1); obtain ⟨⟨x0, x1, x2, x3, x4⟩, f0, f1, f2, f3, f4⟩ := HAB1.out.cells; clear hb1) | (go_at_call 23; (with_reducible refine (HT8.out _ HAB1.out.below).mono ?_); rintro e w3 ⟨rfl, hb3⟩; have HAB3 := Lib.hid (HAB1.out.past hb3); obtain ⟨⟨x0, x1, x2, x3, x4⟩, f0, f1, f2, f3, f4⟩ := HAB3.out.cells; clear hb3))
          go_roundw
          case rel => exact ⟨_, _, _, _, _, rfl, Lib.hid (HMT.out (m - 1)), Lib.hid (HS.out.last HST.out (by omega) (by omega) (HAB3.out.fore _ _))⟩
          case measure => simp [lenOf]; omega
        · have hqm : q ≤ m := by have := HML.out; omega
          have hqi : (q : Int) ≤ d := by omega
          have HNX : Hid (∀ W', AB w W' ⟨ck, cn, x.bk, x.bn, x.fl⟩ → TS w W' a L ⟨ck, cn, x.bk, x.bn, x.fl⟩ (t.drop (q - 1)) (some ⟨b, off + q, none⟩) (m - q) (d - q)) := Lib.hid fun W' h => by
            have := HS.out.next HST.out (by omega) h
            rw [show q - 1 + 1 = q by omega] at this
            exact this
          go_wp2_with (first | (go_at_call 22; (with_reducible refine (HF0.out _ HAB0.out.below).mono ?_); rintro e w1 ⟨rfl, hb1⟩; have HAB1 := Lib.hid (HAB0.out.past hb1); obtain ⟨⟨x0, x1, x2, x3, x4⟩, f0, f1, f2, f3, f4⟩ := HAB1.out.cells; clear hb1) | (go_at_call 23; (with_reducible refine (HT8.out _ HAB1.out.below).mono ?_); rintro e w3 ⟨rfl, hb3⟩; have HAB3 := Lib.hid (HAB1.out.past hb3); obtain ⟨⟨x0, x1, x2, x3, x4⟩, f0, f1, f2, f3, f4⟩ := HAB3.out.cells; clear hb3))
          go_roundw
          case rel => exact ⟨_, _, _, _, _, rfl, Lib.hid (HMT.out (q - 1)), Lib.hid (HNX.out _ (HAB3.out.fore _ _))⟩
          case measure => simp [lenOf]; omega
      have hv38 := hv
      clear hv
      by_cases hv : hd0 g = 48
      · have htd := told_done (x.bk, x.bn) g t
        have HST : Hid (stepP x g t = (⟨x.fk, x.fn, (toldP (x.bk, x.bn) g t).1.1, (toldP (x.bk, x.bn) g t).1.2, x.fl⟩, (toldP (x.bk, x.bn) g t).2 - 1)) := Lib.hid (by unfold stepP; rw [if_neg hz, if_neg hv38, if_pos hv])
        have HT8 := Lib.hid (HTO.out x.bk x.bn)
        rw [hv] at HF0
        clear HTO HTU HFN hvv hv0 hz hv
        generalize (toldP (x.bk, x.bn) g t).1.1 = ck at *
        generalize (toldP (x.bk, x.bn) g t).1.2 = cn at *
        generalize (toldP (x.bk, x.bn) g t).2 = q at *
        obtain ⟨htd1, htd2⟩ := htd
        generalize g.length = gl at *
        by_cases hdq : d = q
        · have hmq : m = q := by have := HML.out; omega
          have hle : m - 1 ≤ t.length := by have := HML.out; omega
          clear HML
          subst hdq
          subst hmq
          go_wp2_with (first | (go_at_call 22; (with_reducible refine (HF0.out _ HAB0.out.below).mono ?_); rintro e w1 ⟨rfl, hb1⟩; have HAB1 := Lib.hid (HAB0.out.past hb1); obtain ⟨⟨x0, x1, x2, x3, x4⟩, f0, f1, f2, f3, f4⟩ := HAB1.out.cells; clear hb1) | (go_at_call 23; (with_reducible refine (HT8.out _ HAB1.out.below).mono ?_); rintro e w3 ⟨rfl, hb3⟩; have HAB3 := Lib.hid (HAB1.out.past hb3); obtain ⟨⟨x0, x1, x2, x3, x4⟩, f0, f1, f2, f3, f4⟩ := HAB3.out.cells; clear hb3))
          go_roundw
          case rel => exact ⟨_, _, _, _, _, rfl, Lib.hid (HMT.out (m - 1)), Lib.hid (HS.out.last HST.out (by omega) (by omega) (HAB3.out.back _ _))⟩
          case measure => simp [lenOf]; omega
        · have hqm : q ≤ m := by have := HML.out; omega
          have hqi : (q : Int) ≤ d := by omega
          have HNX : Hid (∀ W', AB w W' ⟨x.fk, x.fn, ck, cn, x.fl⟩ → TS w W' a L ⟨x.fk, x.fn, ck, cn, x.fl⟩ (t.drop (q - 1)) (some ⟨b, off + q, none⟩) (m - q) (d - q)) := Lib.hid fun W' h => by
            have := HS.out.next HST.out (by omega) h
            rw [show q - 1 + 1 = q by omega] at this
            exact this
          go_wp2_with (first | (go_at_call 22; (with_reducible refine (HF0.out _ HAB0.out.below).mono ?_); rintro e w1 ⟨rfl, hb1⟩; have HAB1 := Lib.hid (HAB0.out.past hb1); obtain ⟨⟨x0, x1, x2, x3, x4⟩, f0, f1, f2, f3, f4⟩ := HAB1.out.cells; clear hb1) | (go_at_call 23; (with_reducible refine (HT8.out _ HAB1.out.below).mono ?_); rintro e w3 ⟨rfl, hb3⟩; have HAB3 := Lib.hid (HAB1.out.past hb3); obtain ⟨⟨x0, x1, x2, x3, x4⟩, f0, f1, f2, f3, f4⟩ := HAB3.out.cells; clear hb3))
          go_roundw
          case rel => exact ⟨_, _, _, _, _, rfl, Lib.hid (HMT.out (q - 1)), Lib.hid (HNX.out _ (HAB3.out.back _ _))⟩
          case measure => simp [lenOf]; omega
      have HST := Lib.hid (step_other x g t (hd0 g) rfl hz hv38 hv)
      have HN1 := Lib.hid (fun W => named_any x.fk x.fn (hd0 g) W)
      have HN2 := Lib.hid (fun W => named_any x.bk x.bn (hd0 g - 10) W)
      generalize hd0 g = v at *
      have c0 : (v == 0) = false := by simpa using hz
      have c1 : (v == 38) = false := by simpa using hv38
      have c2 : (v == 48) = false := by simpa using hv
      clear HTO hz hv38 hv
      generalize namedK x.fk v = nk at *
      generalize namedN x.fn v = nn at *
      generalize namedK x.bk (v - 10) = mk at *
      generalize namedN x.bn (v - 10) = mn at *
      generalize g.length = gl at *
      have HTF := Lib.hid (HTU.out x.fl (flagN g))
      clear HTU
      generalize turnZ x.fl (flagN g) = F at *
      generalize flagN g = u at *
      by_cases hd1 : d = 1
      · subst hd1
        obtain rfl : m = 1 := by omega
        go_upto_region 7 with (first | (go_at_call 22; (with_reducible refine (HF0.out _ HAB0.out.below).mono ?_); rintro e w1 ⟨rfl, hb1⟩; have HAB1 := Lib.hid (HAB0.out.past hb1); obtain ⟨⟨x0, x1, x2, x3, x4⟩, f0, f1, f2, f3, f4⟩ := HAB1.out.cells; clear hb1) | (go_at_call 24; first
          | ((with_reducible refine (HN1.out _).mono ?_); rintro e w3 ⟨rfl, hb3⟩; have HAB3 := Lib.hid (HAB1.out.past hb3); obtain ⟨⟨x0, x1, x2, x3, x4⟩, f0, f1, f2, f3, f4⟩ := HAB3.out.cells; clear hb3)
          | ((with_reducible refine (HN2.out _).mono ?_); rintro e w4 ⟨rfl, hb4⟩; have HAB4 := Lib.hid ((HAB3.out.fore _ _).past hb4); obtain ⟨⟨x0, x1, x2, x3, x4⟩, f0, f1, f2, f3, f4⟩ := HAB4.out.cells; clear hb4)))
        have HABX := Lib.hid (HAB4.out.back mk mn)
        generalize ((w4.setCell ⟨w.heap.size, 2, none⟩ (.int .i64 mk)).setCell ⟨w.heap.size, 3, none⟩ (.int .i64 mn)) = W at *
        clear x0 x1 x2 x3 x4 f0 f1 f2 f3 f4 HAB4 HAB3 HAB1 hcc
        obtain ⟨⟨x0, x1, x2, x3, x4⟩, f0, f1, f2, f3, f4⟩ := HABX.out.cells
        have hcw := HC0.out _ HABX.out.below
        go_region_with ((first
          | (go_at_call 26; (with_reducible refine (HFN.out _ HABX.out.below.drew).mono ?_); rintro e w5 ⟨rfl, hb5⟩; have HAB5 := Lib.hid (HABX.out.past (belD hb5)); obtain ⟨⟨x0, x1, x2, x3, x4⟩, f0, f1, f2, f3, f4⟩ := HAB5.out.cells; have hc5 := HC0.out _ HAB5.out.below; clear hb5)
          | (go_at_call 25; (with_reducible refine (HTF.out _ HAB5.out.below).mono ?_); rintro e w6 ⟨rfl, hb6⟩; have HAB6 := Lib.hid (HAB5.out.past hb6); obtain ⟨⟨x0, x1, x2, x3, x4⟩, f0, f1, f2, f3, f4⟩ := HAB6.out.cells; clear hb6)))
        all_goals
          go_wp2
          go_roundw
          case rel => exact ⟨_, _, _, _, _, rfl, Lib.hid (HMT.out 0), Lib.hid (HS.out.last HST.out rfl (by omega) (HAB6.out.flag F))⟩
          case measure => simp [lenOf]
      · go_upto_region 7 with (first | (go_at_call 22; (with_reducible refine (HF0.out _ HAB0.out.below).mono ?_); rintro e w1 ⟨rfl, hb1⟩; have HAB1 := Lib.hid (HAB0.out.past hb1); obtain ⟨⟨x0, x1, x2, x3, x4⟩, f0, f1, f2, f3, f4⟩ := HAB1.out.cells; clear hb1) | (go_at_call 24; first
          | ((with_reducible refine (HN1.out _).mono ?_); rintro e w3 ⟨rfl, hb3⟩; have HAB3 := Lib.hid (HAB1.out.past hb3); obtain ⟨⟨x0, x1, x2, x3, x4⟩, f0, f1, f2, f3, f4⟩ := HAB3.out.cells; clear hb3)
          | ((with_reducible refine (HN2.out _).mono ?_); rintro e w4 ⟨rfl, hb4⟩; have HAB4 := Lib.hid ((HAB3.out.fore _ _).past hb4); obtain ⟨⟨x0, x1, x2, x3, x4⟩, f0, f1, f2, f3, f4⟩ := HAB4.out.cells; clear hb4)))
        have HABX := Lib.hid (HAB4.out.back mk mn)
        generalize ((w4.setCell ⟨w.heap.size, 2, none⟩ (.int .i64 mk)).setCell ⟨w.heap.size, 3, none⟩ (.int .i64 mn)) = W at *
        clear x0 x1 x2 x3 x4 f0 f1 f2 f3 f4 HAB4 HAB3 HAB1 hcc
        obtain ⟨⟨x0, x1, x2, x3, x4⟩, f0, f1, f2, f3, f4⟩ := HABX.out.cells
        have hcw := HC0.out _ HABX.out.below
        go_region_with ((first
          | (go_at_call 26; (with_reducible refine (HFN.out _ HABX.out.below.drew).mono ?_); rintro e w5 ⟨rfl, hb5⟩; have HAB5 := Lib.hid (HABX.out.past (belD hb5)); obtain ⟨⟨x0, x1, x2, x3, x4⟩, f0, f1, f2, f3, f4⟩ := HAB5.out.cells; have hc5 := HC0.out _ HAB5.out.below; clear hb5)
          | (go_at_call 25; (with_reducible refine (HTF.out _ HAB5.out.below).mono ?_); rintro e w6 ⟨rfl, hb6⟩; have HAB6 := Lib.hid (HAB5.out.past hb6); obtain ⟨⟨x0, x1, x2, x3, x4⟩, f0, f1, f2, f3, f4⟩ := HAB6.out.cells; clear hb6)))
        all_goals
          go_wp2
          go_roundw
          case rel => exact ⟨_, _, _, _, _, rfl, Lib.hid (HMT.out 0), Lib.hid (HS.out.next HST.out (by omega) (HAB6.out.flag F))⟩
          case measure => simp [lenOf]; omega

end Go.Proofs.YtlndmfbopopmmaaDoor
